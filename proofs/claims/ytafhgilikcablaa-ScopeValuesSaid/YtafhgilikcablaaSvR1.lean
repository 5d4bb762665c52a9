/- The program's resolve of a literal, of a column. -/
import Derived.Test.YtafhgilikcablaaSvRv
namespace Go.Proofs.Ytafhgilikcablaa
open Go.RowKit
set_option linter.unusedVariables false
set_option linter.unusedSimpArgs false
set_option maxRecDepth 100000
theorem pcolumn_any (w : World) (F : FnD) (ta sa na : Option Addr) (tn tc sn sc nn nc : Nat) (hF : FnAt w F ta sa na) (htn : tn = F.tabs.length) (hsn : sn = F.srcs.length) (hnn : nn = F.names.length)
    (kd : Int) (op : ByteArray) (vk vn : Int) (vs t col : ByteArray) (pa : Option Addr) (pn pc : Nat) :
    Calls Try.prog 133 #[.agg #[.slice ta tn tc, .slice sa sn sc, .slice na nn nc], .agg #[.int .i64 kd, .string op, .int .i64 vk, .int .i64 vn, .string vs, .string t, .string col, .slice pa pn pc]] w (CellAns w (colV F t col)) := by
  by_cases ht : t.toList = []
  · exact pcolumn_e w F ta sa na tn tc sn sc nn nc hF htn hsn hnn kd op vk vn vs t col pa pn pc ht
  · exact pcolumn_t w F ta sa na tn tc sn sc nn nc hF htn hsn hnn kd op vk vn vs t col pa pn pc ht
theorem cellsE {w : World} {N : Nat} {T : TypeId} {a0 a1 a2 a3 a4 a5 a6 a7 : Value} (h : w.heap[N]? = some (.cells #[a0, a1, a2, a3, a4, a5, a6, a7] T (0, 0))) : w.cell? ⟨N, 0, none⟩ = some a0 ∧ w.cell? ⟨N, 1, none⟩ = some a1 ∧ w.cell? ⟨N, 2, none⟩ = some a2 ∧ w.cell? ⟨N, 3, none⟩ = some a3 ∧ w.cell? ⟨N, 4, none⟩ = some a4 ∧ w.cell? ⟨N, 5, none⟩ = some a5 ∧ w.cell? ⟨N, 6, none⟩ = some a6 ∧ w.cell? ⟨N, 7, none⟩ = some a7 :=
  ⟨cell_of_row w _ 0 _ _ _ h, cell_of_row w _ 1 _ _ _ h, cell_of_row w _ 2 _ _ _ h, cell_of_row w _ 3 _ _ _ h, cell_of_row w _ 4 _ _ _ h, cell_of_row w _ 5 _ _ _ h, cell_of_row w _ 6 _ _ _ h, cell_of_row w _ 7 _ _ _ h⟩
theorem cells3 {w : World} {N : Nat} {T : TypeId} {a0 a1 a2 : Value} (h : w.heap[N]? = some (.cells #[a0, a1, a2] T (0, 0))) : w.cell? ⟨N, 0, none⟩ = some a0 ∧ w.cell? ⟨N, 1, none⟩ = some a1 ∧ w.cell? ⟨N, 2, none⟩ = some a2 :=
  ⟨cell_of_row w _ 0 _ _ _ h, cell_of_row w _ 1 _ _ _ h, cell_of_row w _ 2 _ _ _ h⟩
theorem block8 {w : World} {N b : Nat} (h : b ≠ N) (a0 a1 a2 a3 a4 a5 a6 a7 : Value) : ((((((((w.setCell ⟨N, 0, none⟩ a0).setCell ⟨N, 1, none⟩ a1).setCell ⟨N, 2, none⟩ a2).setCell ⟨N, 3, none⟩ a3).setCell ⟨N, 4, none⟩ a4).setCell ⟨N, 5, none⟩ a5).setCell ⟨N, 6, none⟩ a6).setCell ⟨N, 7, none⟩ a7).heap[b]? = w.heap[b]? :=
  (heap_setCell_other _ _ _ _ h).trans ((heap_setCell_other _ _ _ _ h).trans ((heap_setCell_other _ _ _ _ h).trans ((heap_setCell_other _ _ _ _ h).trans ((heap_setCell_other _ _ _ _ h).trans ((heap_setCell_other _ _ _ _ h).trans ((heap_setCell_other _ _ _ _ h).trans (heap_setCell_other _ _ _ _ h)))))))
theorem size8 (w : World) (N : Nat) (a0 a1 a2 a3 a4 a5 a6 a7 : Value) : ((((((((w.setCell ⟨N, 0, none⟩ a0).setCell ⟨N, 1, none⟩ a1).setCell ⟨N, 2, none⟩ a2).setCell ⟨N, 3, none⟩ a3).setCell ⟨N, 4, none⟩ a4).setCell ⟨N, 5, none⟩ a5).setCell ⟨N, 6, none⟩ a6).setCell ⟨N, 7, none⟩ a7).heap.size = w.heap.size := by simp
/-- cells that lie elsewhere are there still -/
theorem cl_set8 {w : World} {N K : Nat} {a : Option Addr} {l : List CT} (hK : N < K) (h : CL w (fun b => K ≤ b) a l) (a0 a1 a2 a3 a4 a5 a6 a7 : Value) : CL ((((((((w.setCell ⟨N, 0, none⟩ a0).setCell ⟨N, 1, none⟩ a1).setCell ⟨N, 2, none⟩ a2).setCell ⟨N, 3, none⟩ a3).setCell ⟨N, 4, none⟩ a4).setCell ⟨N, 5, none⟩ a5).setCell ⟨N, 6, none⟩ a6).setCell ⟨N, 7, none⟩ a7) (fun b => K ≤ b) a l :=
  h.far (Nat.le_of_eq (size8 w N a0 a1 a2 a3 a4 a5 a6 a7).symm) (fun b hb _ => block8 (show b ≠ N by have : K ≤ b := hb; omega) a0 a1 a2 a3 a4 a5 a6 a7)
set_option maxHeartbeats 1600000 in
theorem presolve_1 (w : World) (F : FnD) (ta sa na : Option Addr) (tn tc sn sc nn nc : Nat)
    (op : ByteArray) (vk vn : Int) (vs t col : ByteArray) (pa : Option Addr) (pn pc : Nat) (may : Bool) (hk : (Lit.int .i64 vk).wf = true) (hn : (Lit.int .i64 vn).wf = true) (hs : vs.size ≤ maxLen) :
    Calls Try.prog 95 #[.agg #[.slice ta tn tc, .slice sa sn sc, .slice na nn nc], .agg #[.int .i64 1, .string op, .int .i64 vk, .int .i64 vn, .string vs, .string t, .string col, .slice pa pn pc], .bool may] w (CellAns w (.mk 1 ⟨#[]⟩ vk vn vs 0 0 [], vk, 0)) := by
  have HR := Lib.hid (show CRg (.mk 1 ⟨#[]⟩ vk vn vs 0 0 []) none 0 from ⟨(by decide : (Lit.int .i64 1).wf = true), hk, hn, Nat.zero_le _, hs, (by decide : (Lit.int .i64 0).wf = true), (by decide : (Lit.int .i64 0).wf = true), fun _ => ⟨rfl, rfl⟩, Nat.le_refl _, Nat.zero_le _⟩)
  clear hk hn hs
  have HB := Lib.hid (bel0 (.cells #[.int .i64 0, .string ⟨#[]⟩, .int .i64 0, .int .i64 0, .string ⟨#[]⟩, .int .i64 0, .int .i64 0, .slice none 0 0] 46) (bel0 (.cells #[.int .i64 1, .string op, .int .i64 vk, .int .i64 vn, .string vs, .string t, .string col, .slice pa pn pc] 52) (bel0 (.cells #[.slice ta tn tc, .slice sa sn sc, .slice na nn nc] 115) (Below.refl w.heap.size w))))
  have HBX := Lib.hid (boxes3 w (.cells #[.slice ta tn tc, .slice sa sn sc, .slice na nn nc] 115 (0, 0)) (.cells #[.int .i64 1, .string op, .int .i64 vk, .int .i64 vn, .string vs, .string t, .string col, .slice pa pn pc] 52 (0, 0)) (.cells #[.int .i64 0, .string ⟨#[]⟩, .int .i64 0, .int .i64 0, .string ⟨#[]⟩, .int .i64 0, .int .i64 0, .slice none 0 0] 46 (0, 0)))
  go_enter Try.func95, Try.ntmps95
  go_upto_region 1 with (fail)
  generalize (((w.alloc (.cells #[.slice ta tn tc, .slice sa sn sc, .slice na nn nc] 115)).alloc (.cells #[.int .i64 1, .string op, .int .i64 vk, .int .i64 vn, .string vs, .string t, .string col, .slice pa pn pc] 52)).alloc (.cells #[.int .i64 0, .string ⟨#[]⟩, .int .i64 0, .int .i64 0, .string ⟨#[]⟩, .int .i64 0, .int .i64 0, .slice none 0 0] 46)) = w1 at *
  have HC := Lib.hid (show ∀ W : World, Below w1.heap.size w1 W → (W.heap[w.heap.size]? = some (.cells #[.slice ta tn tc, .slice sa sn sc, .slice na nn nc] 115 (0, 0)) ∧ W.heap[w.heap.size + 1]? = some (.cells #[.int .i64 1, .string op, .int .i64 vk, .int .i64 vn, .string vs, .string t, .string col, .slice pa pn pc] 52 (0, 0)) ∧ W.heap[w.heap.size + 1 + 1]? = some (.cells #[.int .i64 0, .string ⟨#[]⟩, .int .i64 0, .int .i64 0, .string ⟨#[]⟩, .int .i64 0, .int .i64 0, .slice none 0 0] 46 (0, 0)) ∧ w.heap.size + 1 + 1 < W.heap.size) from fun W h => by
    obtain ⟨⟨h0, h1, h2⟩, hz⟩ := HBX.out
    have k2 := (h.block (w.heap.size + 1 + 1) (by omega)).trans h2
    exact ⟨(h.block w.heap.size (by omega)).trans h0, (h.block (w.heap.size + 1) (by omega)).trans h1, k2, (Array.getElem?_eq_some_iff.1 k2).1⟩)
  obtain ⟨-, hE, hR, c6⟩ := HC.out w1 (Below.refl _ _)
  obtain ⟨e0, e1, e2, e3, e4, e5, e6, e7⟩ := cellsE hE
  have HX9 := Lib.hid (box8d hR (.int .i64 1) (.string ⟨#[]⟩) (.int .i64 vk) (.int .i64 vn) (.string vs) (.int .i64 0) (.int .i64 0) (.slice none 0 0))
  have HB9 := Lib.hid (box8_below (K := w.heap.size) (N := w.heap.size + 1 + 1) (by omega) HB.out (.int .i64 1) (.string ⟨#[]⟩) (.int .i64 vk) (.int .i64 vn) (.string vs) (.int .i64 0) (.int .i64 0) (.slice none 0 0))
  obtain ⟨y0, y1, y2, y3, y4, y5, y6, y7, z0, z1, z2, z3, z4, z5, z6, z7, c7⟩ := z8 hR
  clear hE hR
  clear e1 e5 e6 e7
  go_upto_region 3 with (fail)
  have d0 : w1.drew.cell? ⟨w.heap.size + 1, 0, none⟩ = some (.int .i64 1) := e0
  have d2 : w1.drew.cell? ⟨w.heap.size + 1, 2, none⟩ = some (.int .i64 vk) := e2
  have d3 : w1.drew.cell? ⟨w.heap.size + 1, 3, none⟩ = some (.int .i64 vn) := e3
  have d4 : w1.drew.cell? ⟨w.heap.size + 1, 4, none⟩ = some (.string vs) := e4
  have HN := Lib.hid (show w.heap.size + 1 ≠ w.heap.size + 1 + 1 by omega)
  go_region_held3 (fun W => W.cell? ⟨w.heap.size + 1, 0, none⟩ = some (.int .i64 1) ∧ W.cell? ⟨w.heap.size + 1, 2, none⟩ = some (.int .i64 vk) ∧ W.cell? ⟨w.heap.size + 1, 3, none⟩ = some (.int .i64 vn) ∧ W.cell? ⟨w.heap.size + 1, 4, none⟩ = some (.string vs))
    (first | (with_reducible exact ⟨e0, e2, e3, e4⟩) | (with_reducible exact ⟨d0, d2, d3, d4⟩) | (with_reducible exact ⟨(cell8d HN.out).trans e0, (cell8d HN.out).trans e2, (cell8d HN.out).trans e3, (cell8d HN.out).trans e4⟩))
    (fail)
  go_wp2
  refine bodyPost_ret (results_cellP rfl _ _ (w.heap.size + 1 + 1) _ rfl rfl HX9.out) rfl ?_
  exact ⟨⟨_, rfl, none, 0, rfl, HR.out, .nil _⟩, HB9.out.drew⟩
set_option maxHeartbeats 1600000 in
theorem presolve_2 (w : World) (F : FnD) (ta sa na : Option Addr) (tn tc sn sc nn nc : Nat) (hF : FnAt w F ta sa na) (htn : tn = F.tabs.length) (hsn : sn = F.srcs.length) (hnn : nn = F.names.length)
    (op : ByteArray) (vk vn : Int) (vs t col : ByteArray) (pa : Option Addr) (pn pc : Nat) (may : Bool) :
    Calls Try.prog 95 #[.agg #[.slice ta tn tc, .slice sa sn sc, .slice na nn nc], .agg #[.int .i64 2, .string op, .int .i64 vk, .int .i64 vn, .string vs, .string t, .string col, .slice pa pn pc], .bool may] w (CellAns w (colV F t col)) := by
  have HF := Lib.hid hF
  have HTn := Lib.hid htn
  have HSn := Lib.hid hsn
  have HNn := Lib.hid hnn
  clear hF htn hsn hnn
  have HB := Lib.hid (bel0 (.cells #[.int .i64 0, .string ⟨#[]⟩, .int .i64 0, .int .i64 0, .string ⟨#[]⟩, .int .i64 0, .int .i64 0, .slice none 0 0] 46) (bel0 (.cells #[.int .i64 2, .string op, .int .i64 vk, .int .i64 vn, .string vs, .string t, .string col, .slice pa pn pc] 52) (bel0 (.cells #[.slice ta tn tc, .slice sa sn sc, .slice na nn nc] 115) (Below.refl w.heap.size w))))
  have HBX := Lib.hid (boxes3 w (.cells #[.slice ta tn tc, .slice sa sn sc, .slice na nn nc] 115 (0, 0)) (.cells #[.int .i64 2, .string op, .int .i64 vk, .int .i64 vn, .string vs, .string t, .string col, .slice pa pn pc] 52 (0, 0)) (.cells #[.int .i64 0, .string ⟨#[]⟩, .int .i64 0, .int .i64 0, .string ⟨#[]⟩, .int .i64 0, .int .i64 0, .slice none 0 0] 46 (0, 0)))
  go_enter Try.func95, Try.ntmps95
  go_upto_region 1 with (fail)
  generalize (((w.alloc (.cells #[.slice ta tn tc, .slice sa sn sc, .slice na nn nc] 115)).alloc (.cells #[.int .i64 2, .string op, .int .i64 vk, .int .i64 vn, .string vs, .string t, .string col, .slice pa pn pc] 52)).alloc (.cells #[.int .i64 0, .string ⟨#[]⟩, .int .i64 0, .int .i64 0, .string ⟨#[]⟩, .int .i64 0, .int .i64 0, .slice none 0 0] 46)) = w1 at *
  have HC := Lib.hid (show ∀ W : World, Below w1.heap.size w1 W → (W.heap[w.heap.size]? = some (.cells #[.slice ta tn tc, .slice sa sn sc, .slice na nn nc] 115 (0, 0)) ∧ W.heap[w.heap.size + 1]? = some (.cells #[.int .i64 2, .string op, .int .i64 vk, .int .i64 vn, .string vs, .string t, .string col, .slice pa pn pc] 52 (0, 0)) ∧ W.heap[w.heap.size + 1 + 1]? = some (.cells #[.int .i64 0, .string ⟨#[]⟩, .int .i64 0, .int .i64 0, .string ⟨#[]⟩, .int .i64 0, .int .i64 0, .slice none 0 0] 46 (0, 0)) ∧ w.heap.size + 1 + 1 < W.heap.size) from fun W h => by
    obtain ⟨⟨h0, h1, h2⟩, hz⟩ := HBX.out
    have k2 := (h.block (w.heap.size + 1 + 1) (by omega)).trans h2
    exact ⟨(h.block w.heap.size (by omega)).trans h0, (h.block (w.heap.size + 1) (by omega)).trans h1, k2, (Array.getElem?_eq_some_iff.1 k2).1⟩)
  obtain ⟨hF, hE, hR, c6⟩ := HC.out w1 (Below.refl _ _)
  obtain ⟨e0, e1, e2, e3, e4, e5, e6, e7⟩ := cellsE hE
  obtain ⟨f0, f1, f2⟩ := cells3 hF
  clear hE hR hF
  go_wp2_with fail
  refine (pcolumn_any _ F ta sa na tn tc sn sc nn nc (HF.out.keep HB.out) HTn.out HSn.out HNn.out 2 op vk vn vs t col pa pn pc).mono ?_
  rintro e' w2 ⟨⟨v, rfl, ra, rc, rfl, hrg, hcl⟩, hb2⟩
  have HB2 := Lib.hid (show Below w1.heap.size w1 w2 from hb2)
  have HBw := Lib.hid (bt HB.out hb2)
  have HRg := Lib.hid hrg
  have HCl := Lib.hid hcl
  clear hb2 hrg hcl c6 e0 e1 e2 e3 e4 e5 e6 e7 f0 f1 f2
  obtain ⟨c, hc⟩ : ∃ c, c = (colV F t col).1 := ⟨_, rfl⟩
  obtain ⟨kd, hkd⟩ : ∃ kd, kd = (colV F t col).2.1 := ⟨_, rfl⟩
  obtain ⟨er, her⟩ : ∃ er, er = (colV F t col).2.2 := ⟨_, rfl⟩
  have HV := Lib.hid (show colV F t col = (c, kd, er) by rw [hc, hkd, her])
  rw [← hc] at HRg HCl
  rw [← hc, ← hkd, ← her]
  clear hc hkd her
  obtain ⟨-, -, hR, c6⟩ := HC.out w2 HB2.out
  have HX9 := Lib.hid (box8 hR (.int .i64 c.kind) (.string c.op) (.int .i64 c.vk) (.int .i64 c.vn) (.string c.vs) (.int .i64 c.src) (.int .i64 c.col) (.slice ra c.parts.length rc))
  have HB9 := Lib.hid (box8_below (K := w.heap.size) (N := w.heap.size + 1 + 1) (by omega) HBw.out (.int .i64 c.kind) (.string c.op) (.int .i64 c.vk) (.int .i64 c.vn) (.string c.vs) (.int .i64 c.src) (.int .i64 c.col) (.slice ra c.parts.length rc))
  have HCL := Lib.hid (cl_set8 (N := w.heap.size + 1 + 1) (K := w1.heap.size) (by have := HBX.out.2; omega) HCl.out (.int .i64 c.kind) (.string c.op) (.int .i64 c.vk) (.int .i64 c.vn) (.string c.vs) (.int .i64 c.src) (.int .i64 c.col) (.slice ra c.parts.length rc))
  obtain ⟨y0, y1, y2, y3, y4, y5, y6, y7, z0, z1, z2, z3, z4, z5, z6, z7, c7⟩ := z8 hR
  clear hR
  rw [ctX_arrT]
  go_wp2
  refine bodyPost_ret (results_cellP rfl _ _ (w.heap.size + 1 + 1) _ rfl rfl HX9.out) rfl ?_
  rw [HV.out]
  exact ⟨⟨_, rfl, ra, rc, rfl, HRg.out, HCL.out.mono (fun b hb _ => Nat.le_trans HB.out.size hb)⟩, HB9.out⟩
end Go.Proofs.Ytafhgilikcablaa
