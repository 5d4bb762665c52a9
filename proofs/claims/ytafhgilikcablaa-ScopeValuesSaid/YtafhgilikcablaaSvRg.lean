/- The document's cell of any expression that is formed. -/
import Derived.Test.YtafhgilikcablaaSvR1
import Derived.Test.YtafhgilikcablaaSvR3
import Derived.Test.YtafhgilikcablaaSvBx
namespace Go.Proofs.Ytafhgilikcablaa
open Go.RowKit
set_option linter.unusedVariables false
set_option linter.unusedSimpArgs false
set_option maxRecDepth 100000
theorem rfcolumn_any (w : World) (D : Nat) (F : FnD) (ta sa na : Option Addr) (tn tc sn sc nn nc : Nat) (hF : FnAt w F ta sa na) (htn : tn = F.tabs.length) (hsn : sn = F.srcs.length) (hnn : nn = F.names.length)
    (hD : w.heap[D]? = some (.cells #[.slice ta tn tc, .slice sa sn sc, .slice na nn nc] 119 (0, 0)))
    (kd : Int) (op : ByteArray) (vk vn : Int) (vs t col : ByteArray) (pa : Option Addr) (pn pc : Nat) :
    Calls Try.prog 97 #[.pointer (some ⟨D, 0, none⟩), .agg #[.int .i64 kd, .string op, .int .i64 vk, .int .i64 vn, .string vs, .string t, .string col, .slice pa pn pc]] w (CellAns w (colV F t col)) := by
  by_cases ht : t.toList = []
  · exact rcolumn_e w D F ta sa na tn tc sn sc nn nc hF htn hsn hnn hD kd op vk vn vs t col pa pn pc ht
  · exact rcolumn_t w D F ta sa na tn tc sn sc nn nc hF htn hsn hnn hD kd op vk vn vs t col pa pn pc ht
set_option maxHeartbeats 1600000 in
theorem rcell_1 (w : World) (D : Nat) (F : FnD) (ta sa na : Option Addr) (tn tc sn sc nn nc : Nat)
    (op : ByteArray) (vk vn : Int) (vs t col : ByteArray) (pa : Option Addr) (pn pc : Nat) (may : Bool) (hk : (Lit.int .i64 vk).wf = true) (hn : (Lit.int .i64 vn).wf = true) (hs : vs.size ≤ maxLen) :
    Calls Try.prog 61 #[.pointer (some ⟨D, 0, none⟩), .agg #[.int .i64 1, .string op, .int .i64 vk, .int .i64 vn, .string vs, .string t, .string col, .slice pa pn pc], .bool may] w (CellAns w (.mk 1 ⟨#[]⟩ vk vn vs 0 0 [], vk, 0)) := by
  have HR := Lib.hid (show CRg (.mk 1 ⟨#[]⟩ vk vn vs 0 0 []) none 0 from ⟨(by decide : (Lit.int .i64 1).wf = true), hk, hn, Nat.zero_le _, hs, (by decide : (Lit.int .i64 0).wf = true), (by decide : (Lit.int .i64 0).wf = true), fun _ => ⟨rfl, rfl⟩, Nat.le_refl _, Nat.zero_le _⟩)
  clear hk hn hs
  have HB := Lib.hid (bel0 (.cells #[.int .i64 0, .string ⟨#[]⟩, .int .i64 0, .int .i64 0, .string ⟨#[]⟩, .int .i64 0, .int .i64 0, .slice none 0 0] 56) (bel0 (.cells #[.int .i64 1, .string op, .int .i64 vk, .int .i64 vn, .string vs, .string t, .string col, .slice pa pn pc] 41) (Below.refl w.heap.size w)))
  have HBX := Lib.hid (boxes2 w (.cells #[.int .i64 1, .string op, .int .i64 vk, .int .i64 vn, .string vs, .string t, .string col, .slice pa pn pc] 41 (0, 0)) (.cells #[.int .i64 0, .string ⟨#[]⟩, .int .i64 0, .int .i64 0, .string ⟨#[]⟩, .int .i64 0, .int .i64 0, .slice none 0 0] 56 (0, 0)))
  go_enter Try.func61, Try.ntmps61
  go_upto_region 1 with (fail)
  generalize ((w.alloc (.cells #[.int .i64 1, .string op, .int .i64 vk, .int .i64 vn, .string vs, .string t, .string col, .slice pa pn pc] 41)).alloc (.cells #[.int .i64 0, .string ⟨#[]⟩, .int .i64 0, .int .i64 0, .string ⟨#[]⟩, .int .i64 0, .int .i64 0, .slice none 0 0] 56)) = w1 at *
  have HC := Lib.hid (show ∀ W : World, Below w1.heap.size w1 W → (W.heap[w.heap.size]? = some (.cells #[.int .i64 1, .string op, .int .i64 vk, .int .i64 vn, .string vs, .string t, .string col, .slice pa pn pc] 41 (0, 0)) ∧ W.heap[w.heap.size + 1]? = some (.cells #[.int .i64 0, .string ⟨#[]⟩, .int .i64 0, .int .i64 0, .string ⟨#[]⟩, .int .i64 0, .int .i64 0, .slice none 0 0] 56 (0, 0)) ∧ w.heap.size + 1 < W.heap.size) from fun W h => by
    obtain ⟨⟨h1, h2⟩, hz⟩ := HBX.out
    have k2 := (h.block (w.heap.size + 1) (by omega)).trans h2
    exact ⟨(h.block (w.heap.size) (by omega)).trans h1, k2, (Array.getElem?_eq_some_iff.1 k2).1⟩)
  obtain ⟨hE, hR, c6⟩ := HC.out w1 (Below.refl _ _)
  obtain ⟨e0, e1, e2, e3, e4, e5, e6, e7⟩ := cellsE hE
  have HX9 := Lib.hid (box8d hR (.int .i64 1) (.string ⟨#[]⟩) (.int .i64 vk) (.int .i64 vn) (.string vs) (.int .i64 0) (.int .i64 0) (.slice none 0 0))
  have HB9 := Lib.hid (box8_below (K := w.heap.size) (N := w.heap.size + 1) (by omega) HB.out (.int .i64 1) (.string ⟨#[]⟩) (.int .i64 vk) (.int .i64 vn) (.string vs) (.int .i64 0) (.int .i64 0) (.slice none 0 0))
  obtain ⟨y0, y1, y2, y3, y4, y5, y6, y7, z0, z1, z2, z3, z4, z5, z6, z7, c7⟩ := z8 hR
  clear hE hR
  clear e1 e5 e6 e7
  go_upto_region 3 with (fail)
  have d0 : w1.drew.cell? ⟨w.heap.size, 0, none⟩ = some (.int .i64 1) := e0
  have d2 : w1.drew.cell? ⟨w.heap.size, 2, none⟩ = some (.int .i64 vk) := e2
  have d3 : w1.drew.cell? ⟨w.heap.size, 3, none⟩ = some (.int .i64 vn) := e3
  have d4 : w1.drew.cell? ⟨w.heap.size, 4, none⟩ = some (.string vs) := e4
  have HN := Lib.hid (show w.heap.size ≠ w.heap.size + 1 by omega)
  go_region_held3 (fun W => W.cell? ⟨w.heap.size, 0, none⟩ = some (.int .i64 1) ∧ W.cell? ⟨w.heap.size, 2, none⟩ = some (.int .i64 vk) ∧ W.cell? ⟨w.heap.size, 3, none⟩ = some (.int .i64 vn) ∧ W.cell? ⟨w.heap.size, 4, none⟩ = some (.string vs))
    (first | (with_reducible exact ⟨e0, e2, e3, e4⟩) | (with_reducible exact ⟨d0, d2, d3, d4⟩) | (with_reducible exact ⟨(cell8d HN.out).trans e0, (cell8d HN.out).trans e2, (cell8d HN.out).trans e3, (cell8d HN.out).trans e4⟩))
    (fail)
  go_wp2
  refine bodyPost_ret (results_cellR rfl _ _ (w.heap.size + 1) _ rfl rfl HX9.out) rfl ?_
  exact ⟨⟨_, rfl, none, 0, rfl, HR.out, .nil _⟩, HB9.out.drew⟩
set_option maxHeartbeats 1600000 in
theorem rcell_2 (w : World) (D : Nat) (F : FnD) (ta sa na : Option Addr) (tn tc sn sc nn nc : Nat) (hF : FnAt w F ta sa na) (htn : tn = F.tabs.length) (hsn : sn = F.srcs.length) (hnn : nn = F.names.length) (hD : w.heap[D]? = some (.cells #[.slice ta tn tc, .slice sa sn sc, .slice na nn nc] 119 (0, 0)))
    (op : ByteArray) (vk vn : Int) (vs t col : ByteArray) (pa : Option Addr) (pn pc : Nat) (may : Bool) :
    Calls Try.prog 61 #[.pointer (some ⟨D, 0, none⟩), .agg #[.int .i64 2, .string op, .int .i64 vk, .int .i64 vn, .string vs, .string t, .string col, .slice pa pn pc], .bool may] w (CellAns w (colV F t col)) := by
  have HF := Lib.hid hF
  have HTn := Lib.hid htn
  have HSn := Lib.hid hsn
  have HNn := Lib.hid hnn
  have HDf := Lib.hid hD
  clear hF htn hsn hnn hD
  have HB := Lib.hid (bel0 (.cells #[.int .i64 0, .string ⟨#[]⟩, .int .i64 0, .int .i64 0, .string ⟨#[]⟩, .int .i64 0, .int .i64 0, .slice none 0 0] 56) (bel0 (.cells #[.int .i64 2, .string op, .int .i64 vk, .int .i64 vn, .string vs, .string t, .string col, .slice pa pn pc] 41) (Below.refl w.heap.size w)))
  have HBX := Lib.hid (boxes2 w (.cells #[.int .i64 2, .string op, .int .i64 vk, .int .i64 vn, .string vs, .string t, .string col, .slice pa pn pc] 41 (0, 0)) (.cells #[.int .i64 0, .string ⟨#[]⟩, .int .i64 0, .int .i64 0, .string ⟨#[]⟩, .int .i64 0, .int .i64 0, .slice none 0 0] 56 (0, 0)))
  go_enter Try.func61, Try.ntmps61
  go_upto_region 1 with (fail)
  generalize ((w.alloc (.cells #[.int .i64 2, .string op, .int .i64 vk, .int .i64 vn, .string vs, .string t, .string col, .slice pa pn pc] 41)).alloc (.cells #[.int .i64 0, .string ⟨#[]⟩, .int .i64 0, .int .i64 0, .string ⟨#[]⟩, .int .i64 0, .int .i64 0, .slice none 0 0] 56)) = w1 at *
  have HC := Lib.hid (show ∀ W : World, Below w1.heap.size w1 W → (W.heap[w.heap.size]? = some (.cells #[.int .i64 2, .string op, .int .i64 vk, .int .i64 vn, .string vs, .string t, .string col, .slice pa pn pc] 41 (0, 0)) ∧ W.heap[w.heap.size + 1]? = some (.cells #[.int .i64 0, .string ⟨#[]⟩, .int .i64 0, .int .i64 0, .string ⟨#[]⟩, .int .i64 0, .int .i64 0, .slice none 0 0] 56 (0, 0)) ∧ w.heap.size + 1 < W.heap.size) from fun W h => by
    obtain ⟨⟨h1, h2⟩, hz⟩ := HBX.out
    have k2 := (h.block (w.heap.size + 1) (by omega)).trans h2
    exact ⟨(h.block (w.heap.size) (by omega)).trans h1, k2, (Array.getElem?_eq_some_iff.1 k2).1⟩)
  obtain ⟨hE, hR, c6⟩ := HC.out w1 (Below.refl _ _)
  obtain ⟨e0, e1, e2, e3, e4, e5, e6, e7⟩ := cellsE hE
  clear hE hR
  go_wp2_with fail
  refine (rfcolumn_any _ D F ta sa na tn tc sn sc nn nc (HF.out.keep HB.out) HTn.out HSn.out HNn.out ((HB.out.block D (Array.getElem?_eq_some_iff.1 HDf.out).1).trans HDf.out) 2 op vk vn vs t col pa pn pc).mono ?_
  rintro e' w2 ⟨⟨v, rfl, ra, rc, rfl, hrg, hcl⟩, hb2⟩
  have HB2 := Lib.hid (show Below w1.heap.size w1 w2 from hb2)
  have HBw := Lib.hid (bt HB.out hb2)
  have HRg := Lib.hid hrg
  have HCl := Lib.hid hcl
  clear hb2 hrg hcl c6 e0 e1 e2 e3 e4 e5 e6 e7
  obtain ⟨c, hc⟩ : ∃ c, c = (colV F t col).1 := ⟨_, rfl⟩
  obtain ⟨kd, hkd⟩ : ∃ kd, kd = (colV F t col).2.1 := ⟨_, rfl⟩
  obtain ⟨er, her⟩ : ∃ er, er = (colV F t col).2.2 := ⟨_, rfl⟩
  have HV := Lib.hid (show colV F t col = (c, kd, er) by rw [hc, hkd, her])
  rw [← hc] at HRg HCl
  rw [← hc, ← hkd, ← her]
  clear hc hkd her
  obtain ⟨-, hR, c6⟩ := HC.out w2 HB2.out
  have HX9 := Lib.hid (box8 hR (.int .i64 c.kind) (.string c.op) (.int .i64 c.vk) (.int .i64 c.vn) (.string c.vs) (.int .i64 c.src) (.int .i64 c.col) (.slice ra c.parts.length rc))
  have HB9 := Lib.hid (box8_below (K := w.heap.size) (N := w.heap.size + 1) (by omega) HBw.out (.int .i64 c.kind) (.string c.op) (.int .i64 c.vk) (.int .i64 c.vn) (.string c.vs) (.int .i64 c.src) (.int .i64 c.col) (.slice ra c.parts.length rc))
  have HCL := Lib.hid (cl_set8 (N := w.heap.size + 1) (K := w1.heap.size) (by have := HBX.out.2; omega) HCl.out (.int .i64 c.kind) (.string c.op) (.int .i64 c.vk) (.int .i64 c.vn) (.string c.vs) (.int .i64 c.src) (.int .i64 c.col) (.slice ra c.parts.length rc))
  obtain ⟨y0, y1, y2, y3, y4, y5, y6, y7, z0, z1, z2, z3, z4, z5, z6, z7, c7⟩ := z8 hR
  clear hR
  rw [ctX_arrO]
  go_wp2
  refine bodyPost_ret (results_cellR rfl _ _ (w.heap.size + 1) _ rfl rfl HX9.out) rfl ?_
  rw [HV.out]
  exact ⟨⟨_, rfl, ra, rc, rfl, HRg.out, HCL.out.mono (fun b hb _ => Nat.le_trans HB.out.size hb)⟩, HB9.out⟩
end Go.Proofs.Ytafhgilikcablaa
namespace Go.Proofs.Ytafhgilikcablaa
open Go.RowKit
set_option linter.unusedVariables false
set_option linter.unusedSimpArgs false
set_option maxRecDepth 100000
theorem alloc_drew_below {wr w4 : World} {o : Obj} (h : Below (wr.alloc o).drew.heap.size (wr.alloc o).drew w4) : Below wr.heap.size wr w4 := by
  have hs : (wr.alloc o).heap.size = wr.heap.size + 1 := by simp
  have h1 : (wr.alloc o).heap.size ≤ w4.heap.size := h.size
  exact ⟨h.os, h.tape, h.output, by omega, fun i hi => (h.block i (show i < (wr.alloc o).heap.size by omega)).trans (alloc_old3 wr o hi)⟩
theorem alloc_drew_block {wr w4 : World} {o : Obj} (h : Below (wr.alloc o).drew.heap.size (wr.alloc o).drew w4) : w4.heap[wr.heap.size]? = some o := by
  have hs : (wr.alloc o).heap.size = wr.heap.size + 1 := by simp
  exact (h.block wr.heap.size (show wr.heap.size < (wr.alloc o).heap.size by omega)).trans (Go.heap_alloc_new wr o)
theorem alloc_drew_cl {wr w4 : World} {o : Obj} {a : Option Addr} {l : List CT} (h : CL w4 (fun b => (wr.alloc o).drew.heap.size ≤ b) a l) : CL w4 (fun b => wr.heap.size + 1 ≤ b) a l :=
  h.mono fun b hb _ => by
    have hs : (wr.alloc o).heap.size = wr.heap.size + 1 := by simp
    have hb : (wr.alloc o).heap.size ≤ b := hb
    omega
theorem drew_below {wr w4 : World} (h : Below wr.drew.heap.size wr.drew w4) : Below wr.heap.size wr w4 := ⟨h.os, h.tape, h.output, h.size, h.block⟩
theorem drew_cl {wr w4 : World} {a : Option Addr} {l : List CT} (h : CL w4 (fun b => wr.drew.heap.size ≤ b) a l) : CL w4 (fun b => wr.heap.size ≤ b) a l := h
theorem st8_below {w w1 : World} {N K : Nat} (hK : K ≤ N) (h : Below K w w1) (a0 a1 a2 a3 a4 a5 a6 a7 : Value) : Below K w ((((((((w1.setCell ⟨N, 0, none⟩ a0).setCell ⟨N, 1, none⟩ a1).setCell ⟨N, 2, none⟩ a2).setCell ⟨N, 3, none⟩ a3).setCell ⟨N, 4, none⟩ a4).setCell ⟨N, 5, none⟩ a5).setCell ⟨N, 6, none⟩ a6).setCell ⟨N, 7, none⟩ a7) := box8_below hK h a0 a1 a2 a3 a4 a5 a6 a7
theorem wpAnyH_takeD {P : Program} {ops : Array Oper} {Q : Exit → Act → World → Prop} {md : Region.Mode} {S : World → Prop} {i d : Nat} {oi : Oper} {v : Value} {fuel : Nat} {listed : Array Bool} {a : Act} {w : World} (hi : ops[i]? = some oi) (hd : oi.dst = some d)
    (hs : Region.noSelect ops = true) (hf : Region.free md ops listed i = true) (hr : (Region.ready md ops listed).contains i = true)
    (hQ : ∀ c a w, Q (.panic c) (a.put oi.dst v) w → Q (.panic c) a w) (hy : YieldsIf P ops S oi v a) (hS : S w)
    (h : wpAnyH P md ops Q S fuel (listed.setIfInBounds i true) (a.put (some d) v) w) : wpAnyH P md ops Q S (fuel + 1) listed a w :=
  wpAnyH_take hi hs hf hr hQ hy hS (hd ▸ h)
def regOfC (n : Nat) : Code → Option Code
  | .region id ops b => if id = n then some (.region id ops b) else none
  | .seq a b => match regOfC n a with
    | some c => some c
    | none => regOfC n b
  | .block _ c => regOfC n c
  | .scope c => regOfC n c
  | .loop c => regOfC n c
  | .cond _ a b => match regOfC n a with
    | some c => some c
    | none => regOfC n b
  | _ => none
noncomputable def Rc11 : Code := ((Try.f61.body.bind (regOfC 11)).getD .skip)
end Go.Proofs.Ytafhgilikcablaa
