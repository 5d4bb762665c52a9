/- The document's cell of an expression: the region that resolves a part. Written by genrc.py. -/
import Derived.Test.YtafhgilikcablaaSvR1
import Derived.Test.YtafhgilikcablaaSvVa
import Derived.Test.YtafhgilikcablaaSvBx
namespace Go.Proofs.Ytafhgilikcablaa
open Go.RowKit
set_option linter.unusedVariables false
set_option linter.unusedSimpArgs false
set_option maxRecDepth 100000
theorem rfcolumn_any (w : World) (D : Nat) (F : FnD) (ta sa na : Option Addr) (tn tc sn sc nn nc : Nat) (hF : FnAt w F ta sa na) (htn : tn = F.tabs.length) (hsn : sn = F.srcs.length) (hnn : nn = F.names.length)
    (hD : w.heap[D]? = some (.cells #[.slice ta tn tc, .slice sa sn sc, .slice na nn nc] 119 (0, 0)))
    (kd : Int) (op : ByteArray) (vk vn : Int) (vs t col : ByteArray) (pa : Option Addr) (pn pc : Nat) :
    Calls Try.prog 97 #[.pointer (some ⟨D, 0, none⟩), .agg #[.int .i64 kd, .string op, .int .i64 vk, .int .i64 vn, .string vs, .string t, .string col, .slice pa pn pc]] w (CellAns w (colV F t col)) := by
  by_cases ht : t.toList = []
  · exact rcolumn_e w D F ta sa na tn tc sn sc nn nc hF htn hsn hnn hD kd op vk vn vs t col pa pn pc ht
  · exact rcolumn_t w D F ta sa na tn tc sn sc nn nc hF htn hsn hnn hD kd op vk vn vs t col pa pn pc ht
set_option maxHeartbeats 1600000 in
theorem rcell_1 (w : World) (D : Nat) (F : FnD) (ta sa na : Option Addr) (tn tc sn sc nn nc : Nat)
    (op : ByteArray) (vk vn : Int) (vs t col : ByteArray) (pa : Option Addr) (pn pc : Nat) (may : Bool) (hk : (Lit.int .i64 vk).wf = true) (hn : (Lit.int .i64 vn).wf = true) (hs : vs.size ≤ maxLen) :
    Calls Try.prog 61 #[.pointer (some ⟨D, 0, none⟩), .agg #[.int .i64 1, .string op, .int .i64 vk, .int .i64 vn, .string vs, .string t, .string col, .slice pa pn pc], .bool may] w (CellAns w (.mk 1 ⟨#[]⟩ vk vn vs 0 0 [], vk, 0)) := by
  have HR := Lib.hid (show CRg (.mk 1 ⟨#[]⟩ vk vn vs 0 0 []) none 0 from ⟨(by decide : (Lit.int .i64 1).wf = true), hk, hn, Nat.zero_le _, hs, (by decide : (Lit.int .i64 0).wf = true), (by decide : (Lit.int .i64 0).wf = true), fun _ => ⟨rfl, rfl⟩, Nat.le_refl _, Nat.zero_le _⟩)
  clear hk hn hs
  have HB := Lib.hid (bel0 (.cells #[.int .i64 0, .string ⟨#[]⟩, .int .i64 0, .int .i64 0, .string ⟨#[]⟩, .int .i64 0, .int .i64 0, .slice none 0 0] 56) (bel0 (.cells #[.int .i64 1, .string op, .int .i64 vk, .int .i64 vn, .string vs, .string t, .string col, .slice pa pn pc] 41) (Below.refl w.heap.size w)))
  have HBX := Lib.hid (boxes2 w (.cells #[.int .i64 1, .string op, .int .i64 vk, .int .i64 vn, .string vs, .string t, .string col, .slice pa pn pc] 41 (0, 0)) (.cells #[.int .i64 0, .string ⟨#[]⟩, .int .i64 0, .int .i64 0, .string ⟨#[]⟩, .int .i64 0, .int .i64 0, .slice none 0 0] 56 (0, 0)))
  go_enter Try.func61, Try.ntmps61
  go_upto_region 1 with (fail)
  generalize ((w.alloc (.cells #[.int .i64 1, .string op, .int .i64 vk, .int .i64 vn, .string vs, .string t, .string col, .slice pa pn pc] 41)).alloc (.cells #[.int .i64 0, .string ⟨#[]⟩, .int .i64 0, .int .i64 0, .string ⟨#[]⟩, .int .i64 0, .int .i64 0, .slice none 0 0] 56)) = w1 at *
  have HC := Lib.hid (show ∀ W : World, Below w1.heap.size w1 W → (W.heap[w.heap.size]? = some (.cells #[.int .i64 1, .string op, .int .i64 vk, .int .i64 vn, .string vs, .string t, .string col, .slice pa pn pc] 41 (0, 0)) ∧ W.heap[w.heap.size + 1]? = some (.cells #[.int .i64 0, .string ⟨#[]⟩, .int .i64 0, .int .i64 0, .string ⟨#[]⟩, .int .i64 0, .int .i64 0, .slice none 0 0] 56 (0, 0)) ∧ w.heap.size + 1 < W.heap.size) from fun W h => by
    obtain ⟨⟨h1, h2⟩, hz⟩ := HBX.out
    have k2 := (h.block (w.heap.size + 1) (by omega)).trans h2
    exact ⟨(h.block (w.heap.size) (by omega)).trans h1, k2, (Array.getElem?_eq_some_iff.1 k2).1⟩)
  obtain ⟨hE, hR, c6⟩ := HC.out w1 (Below.refl _ _)
  obtain ⟨e0, e1, e2, e3, e4, e5, e6, e7⟩ := cellsE hE
  have HX9 := Lib.hid (box8d hR (.int .i64 1) (.string ⟨#[]⟩) (.int .i64 vk) (.int .i64 vn) (.string vs) (.int .i64 0) (.int .i64 0) (.slice none 0 0))
  have HB9 := Lib.hid (box8_below (K := w.heap.size) (N := w.heap.size + 1) (by omega) HB.out (.int .i64 1) (.string ⟨#[]⟩) (.int .i64 vk) (.int .i64 vn) (.string vs) (.int .i64 0) (.int .i64 0) (.slice none 0 0))
  obtain ⟨y0, y1, y2, y3, y4, y5, y6, y7, z0, z1, z2, z3, z4, z5, z6, z7, c7⟩ := z8 hR
  clear hE hR
  clear e1 e5 e6 e7
  go_upto_region 3 with (fail)
  have d0 : w1.drew.cell? ⟨w.heap.size, 0, none⟩ = some (.int .i64 1) := e0
  have d2 : w1.drew.cell? ⟨w.heap.size, 2, none⟩ = some (.int .i64 vk) := e2
  have d3 : w1.drew.cell? ⟨w.heap.size, 3, none⟩ = some (.int .i64 vn) := e3
  have d4 : w1.drew.cell? ⟨w.heap.size, 4, none⟩ = some (.string vs) := e4
  have HN := Lib.hid (show w.heap.size ≠ w.heap.size + 1 by omega)
  go_region_held3 (fun W => W.cell? ⟨w.heap.size, 0, none⟩ = some (.int .i64 1) ∧ W.cell? ⟨w.heap.size, 2, none⟩ = some (.int .i64 vk) ∧ W.cell? ⟨w.heap.size, 3, none⟩ = some (.int .i64 vn) ∧ W.cell? ⟨w.heap.size, 4, none⟩ = some (.string vs))
    (first | (with_reducible exact ⟨e0, e2, e3, e4⟩) | (with_reducible exact ⟨d0, d2, d3, d4⟩) | (with_reducible exact ⟨(cell8d HN.out).trans e0, (cell8d HN.out).trans e2, (cell8d HN.out).trans e3, (cell8d HN.out).trans e4⟩))
    (fail)
  go_wp2
  refine bodyPost_ret (results_cellR rfl _ _ (w.heap.size + 1) _ rfl rfl HX9.out) rfl ?_
  exact ⟨⟨_, rfl, none, 0, rfl, HR.out, .nil _⟩, HB9.out.drew⟩
set_option maxHeartbeats 1600000 in
theorem rcell_2 (w : World) (D : Nat) (F : FnD) (ta sa na : Option Addr) (tn tc sn sc nn nc : Nat) (hF : FnAt w F ta sa na) (htn : tn = F.tabs.length) (hsn : sn = F.srcs.length) (hnn : nn = F.names.length) (hD : w.heap[D]? = some (.cells #[.slice ta tn tc, .slice sa sn sc, .slice na nn nc] 119 (0, 0)))
    (op : ByteArray) (vk vn : Int) (vs t col : ByteArray) (pa : Option Addr) (pn pc : Nat) (may : Bool) :
    Calls Try.prog 61 #[.pointer (some ⟨D, 0, none⟩), .agg #[.int .i64 2, .string op, .int .i64 vk, .int .i64 vn, .string vs, .string t, .string col, .slice pa pn pc], .bool may] w (CellAns w (colV F t col)) := by
  have HF := Lib.hid hF
  have HTn := Lib.hid htn
  have HSn := Lib.hid hsn
  have HNn := Lib.hid hnn
  have HDf := Lib.hid hD
  clear hF htn hsn hnn hD
  have HB := Lib.hid (bel0 (.cells #[.int .i64 0, .string ⟨#[]⟩, .int .i64 0, .int .i64 0, .string ⟨#[]⟩, .int .i64 0, .int .i64 0, .slice none 0 0] 56) (bel0 (.cells #[.int .i64 2, .string op, .int .i64 vk, .int .i64 vn, .string vs, .string t, .string col, .slice pa pn pc] 41) (Below.refl w.heap.size w)))
  have HBX := Lib.hid (boxes2 w (.cells #[.int .i64 2, .string op, .int .i64 vk, .int .i64 vn, .string vs, .string t, .string col, .slice pa pn pc] 41 (0, 0)) (.cells #[.int .i64 0, .string ⟨#[]⟩, .int .i64 0, .int .i64 0, .string ⟨#[]⟩, .int .i64 0, .int .i64 0, .slice none 0 0] 56 (0, 0)))
  go_enter Try.func61, Try.ntmps61
  go_upto_region 1 with (fail)
  generalize ((w.alloc (.cells #[.int .i64 2, .string op, .int .i64 vk, .int .i64 vn, .string vs, .string t, .string col, .slice pa pn pc] 41)).alloc (.cells #[.int .i64 0, .string ⟨#[]⟩, .int .i64 0, .int .i64 0, .string ⟨#[]⟩, .int .i64 0, .int .i64 0, .slice none 0 0] 56)) = w1 at *
  have HC := Lib.hid (show ∀ W : World, Below w1.heap.size w1 W → (W.heap[w.heap.size]? = some (.cells #[.int .i64 2, .string op, .int .i64 vk, .int .i64 vn, .string vs, .string t, .string col, .slice pa pn pc] 41 (0, 0)) ∧ W.heap[w.heap.size + 1]? = some (.cells #[.int .i64 0, .string ⟨#[]⟩, .int .i64 0, .int .i64 0, .string ⟨#[]⟩, .int .i64 0, .int .i64 0, .slice none 0 0] 56 (0, 0)) ∧ w.heap.size + 1 < W.heap.size) from fun W h => by
    obtain ⟨⟨h1, h2⟩, hz⟩ := HBX.out
    have k2 := (h.block (w.heap.size + 1) (by omega)).trans h2
    exact ⟨(h.block (w.heap.size) (by omega)).trans h1, k2, (Array.getElem?_eq_some_iff.1 k2).1⟩)
  obtain ⟨hE, hR, c6⟩ := HC.out w1 (Below.refl _ _)
  obtain ⟨e0, e1, e2, e3, e4, e5, e6, e7⟩ := cellsE hE
  clear hE hR
  go_wp2_with fail
  refine (rfcolumn_any _ D F ta sa na tn tc sn sc nn nc (HF.out.keep HB.out) HTn.out HSn.out HNn.out ((HB.out.block D (Array.getElem?_eq_some_iff.1 HDf.out).1).trans HDf.out) 2 op vk vn vs t col pa pn pc).mono ?_
  rintro e' w2 ⟨⟨v, rfl, ra, rc, rfl, hrg, hcl⟩, hb2⟩
  have HB2 := Lib.hid (show Below w1.heap.size w1 w2 from hb2)
  have HBw := Lib.hid (bt HB.out hb2)
  have HRg := Lib.hid hrg
  have HCl := Lib.hid hcl
  clear hb2 hrg hcl c6 e0 e1 e2 e3 e4 e5 e6 e7
  obtain ⟨c, hc⟩ : ∃ c, c = (colV F t col).1 := ⟨_, rfl⟩
  obtain ⟨kd, hkd⟩ : ∃ kd, kd = (colV F t col).2.1 := ⟨_, rfl⟩
  obtain ⟨er, her⟩ : ∃ er, er = (colV F t col).2.2 := ⟨_, rfl⟩
  have HV := Lib.hid (show colV F t col = (c, kd, er) by rw [hc, hkd, her])
  rw [← hc] at HRg HCl
  rw [← hc, ← hkd, ← her]
  clear hc hkd her
  obtain ⟨-, hR, c6⟩ := HC.out w2 HB2.out
  have HX9 := Lib.hid (box8 hR (.int .i64 c.kind) (.string c.op) (.int .i64 c.vk) (.int .i64 c.vn) (.string c.vs) (.int .i64 c.src) (.int .i64 c.col) (.slice ra c.parts.length rc))
  have HB9 := Lib.hid (box8_below (K := w.heap.size) (N := w.heap.size + 1) (by omega) HBw.out (.int .i64 c.kind) (.string c.op) (.int .i64 c.vk) (.int .i64 c.vn) (.string c.vs) (.int .i64 c.src) (.int .i64 c.col) (.slice ra c.parts.length rc))
  have HCL := Lib.hid (cl_set8 (N := w.heap.size + 1) (K := w1.heap.size) (by have := HBX.out.2; omega) HCl.out (.int .i64 c.kind) (.string c.op) (.int .i64 c.vk) (.int .i64 c.vn) (.string c.vs) (.int .i64 c.src) (.int .i64 c.col) (.slice ra c.parts.length rc))
  obtain ⟨y0, y1, y2, y3, y4, y5, y6, y7, z0, z1, z2, z3, z4, z5, z6, z7, c7⟩ := z8 hR
  clear hR
  rw [ctX_arrO]
  go_wp2
  refine bodyPost_ret (results_cellR rfl _ _ (w.heap.size + 1) _ rfl rfl HX9.out) rfl ?_
  rw [HV.out]
  exact ⟨⟨_, rfl, ra, rc, rfl, HRg.out, HCL.out.mono (fun b hb _ => Nat.le_trans HB.out.size hb)⟩, HB9.out⟩
end Go.Proofs.Ytafhgilikcablaa
namespace Go.Proofs.Ytafhgilikcablaa
open Go.RowKit
set_option linter.unusedVariables false
set_option linter.unusedSimpArgs false
set_option maxRecDepth 100000
theorem alloc_drew_below {wr w4 : World} {o : Obj} (h : Below (wr.alloc o).drew.heap.size (wr.alloc o).drew w4) : Below wr.heap.size wr w4 := by
  have hs : (wr.alloc o).heap.size = wr.heap.size + 1 := by simp
  have h1 : (wr.alloc o).heap.size ≤ w4.heap.size := h.size
  exact ⟨h.os, h.tape, h.output, by omega, fun i hi => (h.block i (show i < (wr.alloc o).heap.size by omega)).trans (alloc_old3 wr o hi)⟩
theorem alloc_drew_block {wr w4 : World} {o : Obj} (h : Below (wr.alloc o).drew.heap.size (wr.alloc o).drew w4) : w4.heap[wr.heap.size]? = some o := by
  have hs : (wr.alloc o).heap.size = wr.heap.size + 1 := by simp
  exact (h.block wr.heap.size (show wr.heap.size < (wr.alloc o).heap.size by omega)).trans (Go.heap_alloc_new wr o)
theorem alloc_drew_cl {wr w4 : World} {o : Obj} {a : Option Addr} {l : List CT} (h : CL w4 (fun b => (wr.alloc o).drew.heap.size ≤ b) a l) : CL w4 (fun b => wr.heap.size + 1 ≤ b) a l :=
  h.mono fun b hb _ => by
    have hs : (wr.alloc o).heap.size = wr.heap.size + 1 := by simp
    have hb : (wr.alloc o).heap.size ≤ b := hb
    omega
theorem drew_below {wr w4 : World} (h : Below wr.drew.heap.size wr.drew w4) : Below wr.heap.size wr w4 := ⟨h.os, h.tape, h.output, h.size, h.block⟩
theorem drew_cl {wr w4 : World} {a : Option Addr} {l : List CT} (h : CL w4 (fun b => wr.drew.heap.size ≤ b) a l) : CL w4 (fun b => wr.heap.size ≤ b) a l := h
theorem st8_below {w w1 : World} {N K : Nat} (hK : K ≤ N) (h : Below K w w1) (a0 a1 a2 a3 a4 a5 a6 a7 : Value) : Below K w ((((((((w1.setCell ⟨N, 0, none⟩ a0).setCell ⟨N, 1, none⟩ a1).setCell ⟨N, 2, none⟩ a2).setCell ⟨N, 3, none⟩ a3).setCell ⟨N, 4, none⟩ a4).setCell ⟨N, 5, none⟩ a5).setCell ⟨N, 6, none⟩ a6).setCell ⟨N, 7, none⟩ a7) := box8_below hK h a0 a1 a2 a3 a4 a5 a6 a7
theorem wpAnyH_takeD {P : Program} {ops : Array Oper} {Q : Exit → Act → World → Prop} {md : Region.Mode} {S : World → Prop} {i d : Nat} {oi : Oper} {v : Value} {fuel : Nat} {listed : Array Bool} {a : Act} {w : World} (hi : ops[i]? = some oi) (hd : oi.dst = some d)
    (hs : Region.noSelect ops = true) (hf : Region.free md ops listed i = true) (hr : (Region.ready md ops listed).contains i = true)
    (hQ : ∀ c a w, Q (.panic c) (a.put oi.dst v) w → Q (.panic c) a w) (hy : YieldsIf P ops S oi v a) (hS : S w)
    (h : wpAnyH P md ops Q S fuel (listed.setIfInBounds i true) (a.put (some d) v) w) : wpAnyH P md ops Q S (fuel + 1) listed a w :=
  wpAnyH_take hi hs hf hr hQ hy hS (hd ▸ h)
def regOfC (n : Nat) : Code → Option Code
  | .region id ops b => if id = n then some (.region id ops b) else none
  | .seq a b => match regOfC n a with
    | some c => some c
    | none => regOfC n b
  | .block _ c => regOfC n c
  | .scope c => regOfC n c
  | .loop c => regOfC n c
  | .cond _ a b => match regOfC n a with
    | some c => some c
    | none => regOfC n b
  | _ => none
noncomputable def Rc11 : Code := ((Try.f61.body.bind (regOfC 11)).getD .skip)
end Go.Proofs.Ytafhgilikcablaa
namespace Go.Proofs.Ytafhgilikcablaa
open Go.RowKit
set_option linter.unusedVariables false
set_option linter.unusedSimpArgs false
set_option maxRecDepth 100000
set_option maxHeartbeats 12800000 in
theorem rc11_0 (D E b off n scp j pc : Nat) (kind : Int) (p : ET) (pa : Option Addr) (r : CT × Int × Int) (wr : World) (x1 x3 x5 x6 x7 x8 x9 x10 x12 x13 x14 x15 x16 x17 x18 x19 x20 x21 x22 x23 x24 x25 x26 x27 x28 x29 x30 x31 x32 x33 x34 x35 x36 x37 x38 x39 x40 x41 x42 x43 x44 x45 x46 x47 x48 x49 x50 x51 x52 x53 x54 x55 x56 x57 x58 x59 x60 x61 x62 x63 x64 x65 x66 x67 x68 x69 x70 x71 x72 x73 x74 x75 x76 x77 x78 x79 x80 x81 x82 x83 x84 x85 x86 x87 x88 x89 x90 x91 x92 x93 x94 x95 x96 x97 : Value)
    (hKp : ∀ W : World, Below wr.heap.size wr W → (W.cell? ⟨E, 0, none⟩ = some (.int .i64 kind) ∧ W.cell? ⟨E, 7, none⟩ = some (.slice (some ⟨b, off, none⟩) n scp) ∧ W.cell? ⟨b, off + j * 8, none⟩ = some (.int .i64 p.kind) ∧ W.cell? ⟨b, off + j * 8 + 1, none⟩ = some (.string p.op) ∧ W.cell? ⟨b, off + j * 8 + 2, none⟩ = some (.int .i64 p.vk) ∧ W.cell? ⟨b, off + j * 8 + 3, none⟩ = some (.int .i64 p.vn) ∧ W.cell? ⟨b, off + j * 8 + 4, none⟩ = some (.string p.vs) ∧ W.cell? ⟨b, off + j * 8 + 5, none⟩ = some (.string p.tab) ∧ W.cell? ⟨b, off + j * 8 + 6, none⟩ = some (.string p.col) ∧ W.cell? ⟨b, off + j * 8 + 7, none⟩ = some (.slice pa p.parts.length pc))) (hj : j < n) (hn : n ≤ 1000) 
    (hIc : ∀ W : World, Below wr.heap.size wr W → Calls Try.prog 61 #[.pointer (some ⟨D, 0, none⟩), .agg #[.int .i64 p.kind, .string p.op, .int .i64 p.vk, .int .i64 p.vn, .string p.vs, .string p.tab, .string p.col, .slice pa p.parts.length pc], .bool false] W (CellAns W r)) :
    Rc11.wp Try.prog (fun e a' wx => e = .normal ∧ ∃ (Bx : Nat) (ra : Option Addr) (rc : Nat) (u46 u47 u48 u49 u50 u51 u52 u53 u54 u55 u56 u57 u58 u59 u60 u61 u62 : Value), a' = ⟨#[.pointer (some ⟨D, 0, none⟩), x1, .bool false, x3, .pointer (some ⟨E, 0, none⟩), x5, x6, x7, x8, x9, x10, .int .i64 (j : Int), .pointer (some ⟨Bx, 0, none⟩), .int .i64 r.2.1, .int .i64 r.2.2, x15, x16, x17, x18, x19, x20, x21, x22, x23, x24, x25, x26, x27, x28, x29, x30, x31, x32, x33, x34, x35, x36, x37, x38, x39, x40, x41, x42, x43, x44, x45, u46, u47, u48, u49, u50, u51, u52, u53, u54, u55, u56, u57, u58, u59, u60, u61, u62, x63, x64, x65, x66, x67, x68, x69, x70, x71, x72, x73, x74, x75, x76, x77, x78, x79, x80, x81, x82, x83, x84, x85, x86, x87, x88, x89, x90, x91, x92, x93, x94, x95, x96, x97], []⟩ ∧ wx.heap[Bx]? = some (.cells #[.int .i64 r.1.kind, .string r.1.op, .int .i64 r.1.vk, .int .i64 r.1.vn, .string r.1.vs, .int .i64 r.1.src, .int .i64 r.1.col, .slice ra r.1.parts.length rc] 56 (0, 0)) ∧ wr.heap.size ≤ Bx ∧ Below wr.heap.size wr wx ∧ CRg r.1 ra rc ∧ CL wx (fun b => wr.heap.size ≤ b) ra r.1.parts) ⟨#[.pointer (some ⟨D, 0, none⟩), x1, .bool false, x3, .pointer (some ⟨E, 0, none⟩), x5, x6, x7, x8, x9, x10, .int .i64 (j : Int), x12, x13, x14, x15, x16, x17, x18, x19, x20, x21, x22, x23, x24, x25, x26, x27, x28, x29, x30, x31, x32, x33, x34, x35, x36, x37, x38, x39, x40, x41, x42, x43, x44, x45, x46, x47, x48, x49, x50, x51, x52, x53, x54, x55, x56, x57, x58, x59, x60, x61, x62, x63, x64, x65, x66, x67, x68, x69, x70, x71, x72, x73, x74, x75, x76, x77, x78, x79, x80, x81, x82, x83, x84, x85, x86, x87, x88, x89, x90, x91, x92, x93, x94, x95, x96, x97], []⟩ wr := by
  have HKp := Lib.hid hKp
  have HIc := Lib.hid hIc
  have hj0 : (0 : Int) ≤ (j : Int) := by omega
  have hji : (j : Int) < (n : Int) := by omega
  obtain ⟨s0, s1, s2, s3, s4, s5, s6, s7, s8, s9⟩ := HKp.out wr (Below.refl _ _)
  have hs1 : E < wr.heap.size := World.block_lt_of_cell? wr _ s0
  have hbw : b < wr.heap.size := World.block_lt_of_cell? wr _ s2
  have kb0 := Lib.hid (show Below wr.heap.size wr wr.drew from (Below.refl _ _).drew)
  have kb1 := Lib.hid (show Below wr.heap.size wr (wr.alloc (.cells #[.int .i64 0, .string ⟨#[]⟩, .int .i64 0, .int .i64 0, .string ⟨#[]⟩, .int .i64 0, .int .i64 0, .slice none 0 0] 56)).drew from (bel0 _ (Below.refl _ _)).drew)
  have kb2 := Lib.hid (show Below wr.heap.size wr (wr.drew.alloc (.cells #[.int .i64 0, .string ⟨#[]⟩, .int .i64 0, .int .i64 0, .string ⟨#[]⟩, .int .i64 0, .int .i64 0, .slice none 0 0] 56)) from (bel0 _ (Below.refl _ _).drew))
  have kd0 := Lib.hid (HKp.out wr.drew (Below.refl _ _).drew)
  have kd1 := Lib.hid (HKp.out (wr.alloc (.cells #[.int .i64 0, .string ⟨#[]⟩, .int .i64 0, .int .i64 0, .string ⟨#[]⟩, .int .i64 0, .int .i64 0, .slice none 0 0] 56)).drew (bel0 _ (Below.refl _ _)).drew)
  have kd2 := Lib.hid (HKp.out (wr.drew.alloc (.cells #[.int .i64 0, .string ⟨#[]⟩, .int .i64 0, .int .i64 0, .string ⟨#[]⟩, .int .i64 0, .int .i64 0, .slice none 0 0] 56)) (bel0 _ (Below.refl _ _).drew))
  have kd3 := Lib.hid (HKp.out (wr.alloc (.cells #[.int .i64 0, .string ⟨#[]⟩, .int .i64 0, .int .i64 0, .string ⟨#[]⟩, .int .i64 0, .int .i64 0, .slice none 0 0] 56)) (bel0 _ (Below.refl _ _)))
  clear hKp hIc hj hn
  conv => arg 2; whnf
  dsimp only
  refine wp_region_noPanic ?_
  refine wp_region_held_drew (S := fun W => (W.cell? ⟨E, 0, none⟩ = some (.int .i64 kind) ∧ W.cell? ⟨E, 7, none⟩ = some (.slice (some ⟨b, off, none⟩) n scp) ∧ W.cell? ⟨b, off + j * 8, none⟩ = some (.int .i64 p.kind) ∧ W.cell? ⟨b, off + j * 8 + 1, none⟩ = some (.string p.op) ∧ W.cell? ⟨b, off + j * 8 + 2, none⟩ = some (.int .i64 p.vk) ∧ W.cell? ⟨b, off + j * 8 + 3, none⟩ = some (.int .i64 p.vn) ∧ W.cell? ⟨b, off + j * 8 + 4, none⟩ = some (.string p.vs) ∧ W.cell? ⟨b, off + j * 8 + 5, none⟩ = some (.string p.tab) ∧ W.cell? ⟨b, off + j * 8 + 6, none⟩ = some (.string p.col) ∧ W.cell? ⟨b, off + j * 8 + 7, none⟩ = some (.slice pa p.parts.length pc))) (by kernel_rfl) kd0.out (fun hHeld => ?_)
  refine wpAnyH_take (i := 0) (oi := _) (v := .pointer (some ⟨D, 0, none⟩)) rfl (by kernel_rfl) (by kernel_rfl) (by kernel_rfl) (fun _ _ _ h => h) (Or.inl ⟨by rfl, ?_⟩) (by assumption) ?_
  · (intro w' hSw; (try dsimp only at hSw); go_simp)
  try simp only [Act.put, List.setIfInBounds_toArray, List.set_cons_zero, List.set_cons_succ]
  refine wpAnyH_take (i := 1) (oi := _) (v := .pointer (some ⟨E, 7, none⟩)) rfl (by kernel_rfl) (by kernel_rfl) (by kernel_rfl) (fun _ _ _ h => h) (Or.inl ⟨by rfl, ?_⟩) (by assumption) ?_
  · (intro w' hSw; (try dsimp only at hSw); go_simp)
  try simp only [Act.put, List.setIfInBounds_toArray, List.set_cons_zero, List.set_cons_succ]
  refine wpAnyH_take (i := 2) (oi := _) (v := .slice (some ⟨b, off, none⟩) n scp) rfl (by kernel_rfl) (by kernel_rfl) (by kernel_rfl) (fun _ _ _ h => h) (Or.inl ⟨by rfl, ?_⟩) (by assumption) ?_
  · (intro w' hSw; (try dsimp only at hSw); go_simp)
  try simp only [Act.put, List.setIfInBounds_toArray, List.set_cons_zero, List.set_cons_succ]
  refine wpAnyH_take (i := 3) (oi := _) (v := .int .i64 (j : Int)) rfl (by kernel_rfl) (by kernel_rfl) (by kernel_rfl) (fun _ _ _ h => h) (Or.inl ⟨by rfl, ?_⟩) (by assumption) ?_
  · (intro w' hSw; (try dsimp only at hSw); go_simp)
  try simp only [Act.put, List.setIfInBounds_toArray, List.set_cons_zero, List.set_cons_succ]
  refine wpAnyH_take (i := 4) (oi := _) (v := .pointer (some ⟨b, off + j * 8, none⟩)) rfl (by kernel_rfl) (by kernel_rfl) (by kernel_rfl) (fun _ _ _ h => h) (Or.inl ⟨by rfl, ?_⟩) (by assumption) ?_
  · (intro w' hSw; (try dsimp only at hSw); go_simp)
  try simp only [Act.put, List.setIfInBounds_toArray, List.set_cons_zero, List.set_cons_succ]
  refine wpAnyH_take (i := 5) (oi := _) (v := .agg #[.int .i64 p.kind, .string p.op, .int .i64 p.vk, .int .i64 p.vn, .string p.vs, .string p.tab, .string p.col, .slice pa p.parts.length pc]) rfl (by kernel_rfl) (by kernel_rfl) (by kernel_rfl) (fun _ _ _ h => h) (Or.inl ⟨by rfl, ?_⟩) (by assumption) ?_
  · (intro w' hSw; (try dsimp only at hSw); go_simp)
  try simp only [Act.put, List.setIfInBounds_toArray, List.set_cons_zero, List.set_cons_succ]
  refine wpAnyH_take (i := 6) (oi := _) (v := .bool false) rfl (by kernel_rfl) (by kernel_rfl) (by kernel_rfl) (fun _ _ _ h => h) (Or.inl ⟨by rfl, ?_⟩) (by assumption) ?_
  · (intro w' hSw; (try dsimp only at hSw); go_simp)
  try simp only [Act.put, List.setIfInBounds_toArray, List.set_cons_zero, List.set_cons_succ]
  refine wpAnyH_take (i := 7) (oi := _) (v := .bool false) rfl (by kernel_rfl) (by kernel_rfl) (by kernel_rfl) (fun _ _ _ h => h) (Or.inl ⟨by rfl, ?_⟩) (by assumption) ?_
  · (intro w' hSw; (try dsimp only at hSw); go_simp)
  try simp only [Act.put, List.setIfInBounds_toArray, List.set_cons_zero, List.set_cons_succ]
  refine wpAnyH_take (i := 8) (oi := _) (v := undef) rfl (by kernel_rfl) (by kernel_rfl) (by kernel_rfl) (fun _ _ _ h => h) (Or.inr ⟨by simp [Region.wanted, yielded], rfl⟩) (by assumption) ?_
  try simp only [Act.put, List.setIfInBounds_toArray, List.set_cons_zero, List.set_cons_succ]
  refine wpAnyH_take (i := 9) (oi := _) (v := undef) rfl (by kernel_rfl) (by kernel_rfl) (by kernel_rfl) (fun _ _ _ h => h) (Or.inr ⟨by simp [Region.wanted, yielded], rfl⟩) (by assumption) ?_
  try simp only [Act.put, List.setIfInBounds_toArray, List.set_cons_zero, List.set_cons_succ]
  refine wpAnyH_take (i := 10) (oi := _) (v := undef) rfl (by kernel_rfl) (by kernel_rfl) (by kernel_rfl) (fun _ _ _ h => h) (Or.inr ⟨by simp [Region.wanted, yielded], rfl⟩) (by assumption) ?_
  try simp only [Act.put, List.setIfInBounds_toArray, List.set_cons_zero, List.set_cons_succ]
  refine wpAnyH_take (i := 11) (oi := _) (v := .bool false) rfl (by kernel_rfl) (by kernel_rfl) (by kernel_rfl) (fun _ _ _ h => h) (Or.inl ⟨by rfl, ?_⟩) (by assumption) ?_
  · (intro w' hSw; (try dsimp only at hSw); go_simp)
  try simp only [Act.put, List.setIfInBounds_toArray, List.set_cons_zero, List.set_cons_succ]
  refine wpAnyH_ready (rs := [12, 17]) (by kernel_rfl) (by simp) ?_
  refine AllReadyH.cons (o := _) rfl (fun K hK => ?_) (AllReadyH.cons (o := _) rfl (fun K hK => ?_) AllReadyH.nil)
  · go_simp
    go_at_call 61
    refine (HIc.out _ ?hw).mono ?_
    (case hw => (first | (with_reducible exact kb0.out) | (with_reducible exact kb1.out) | (with_reducible exact kb2.out)))
    rintro e' w4 ⟨⟨vv, rfl, ra, rc, rfl, hcrg, hcl⟩, hb4⟩
    rw [ctX_arrO]
    have HRg4 := Lib.hid hcrg
    have HB4 := Lib.hid (show Below wr.heap.size wr w4 by with_reducible exact drew_below hb4); have HCl4 := Lib.hid (drew_cl hcl); have ke1 := Lib.hid (HKp.out w4 HB4.out); have ke2 := Lib.hid (HKp.out w4.drew HB4.out.drew); have ke3 := Lib.hid (HKp.out (w4.alloc (.cells #[.int .i64 0, .string ⟨#[]⟩, .int .i64 0, .int .i64 0, .string ⟨#[]⟩, .int .i64 0, .int .i64 0, .slice none 0 0] 56)) (bel0 _ HB4.out)); have ke4 := Lib.hid (HKp.out (w4.alloc (.cells #[.int .i64 0, .string ⟨#[]⟩, .int .i64 0, .int .i64 0, .string ⟨#[]⟩, .int .i64 0, .int .i64 0, .slice none 0 0] 56)).drew (bel0 _ HB4.out).drew); have ke5 := Lib.hid (HKp.out (w4.alloc (.cells #[.int .i64 r.1.kind, .string r.1.op, .int .i64 r.1.vk, .int .i64 r.1.vn, .string r.1.vs, .int .i64 r.1.src, .int .i64 r.1.col, .slice ra r.1.parts.length rc] 56)) (bel0 _ HB4.out)); have ke6 := Lib.hid (HKp.out (w4.alloc (.cells #[.int .i64 r.1.kind, .string r.1.op, .int .i64 r.1.vk, .int .i64 r.1.vn, .string r.1.vs, .int .i64 r.1.src, .int .i64 r.1.col, .slice ra r.1.parts.length rc] 56)).drew (bel0 _ HB4.out).drew); clear hb4 hcrg hcl
    refine hK.out _ _ (by first | (with_reducible exact ke1.out) | (with_reducible exact ke2.out)) (fun hHeld2 => ?_)
    clear hK K hHeld
    have hHeld := hHeld2
    clear hHeld2
    try simp only [Act.put, List.setIfInBounds_toArray, List.set_cons_zero, List.set_cons_succ]
    refine wpAnyH_take (i := 13) (oi := _) (v := .tuple #[.agg #[.int .i64 r.1.kind, .string r.1.op, .int .i64 r.1.vk, .int .i64 r.1.vn, .string r.1.vs, .int .i64 r.1.src, .int .i64 r.1.col, .slice ra r.1.parts.length rc], .int .i64 r.2.1, .int .i64 r.2.2]) rfl (by kernel_rfl) (by kernel_rfl) (by kernel_rfl) (fun _ _ _ h => h) (Or.inl ⟨by rfl, ?_⟩) (by assumption) ?_
    · (intro w' hSw; (try dsimp only at hSw); go_simp)
    try simp only [Act.put, List.setIfInBounds_toArray, List.set_cons_zero, List.set_cons_succ]
    refine wpAnyH_take (i := 14) (oi := _) (v := .agg #[.int .i64 r.1.kind, .string r.1.op, .int .i64 r.1.vk, .int .i64 r.1.vn, .string r.1.vs, .int .i64 r.1.src, .int .i64 r.1.col, .slice ra r.1.parts.length rc]) rfl (by kernel_rfl) (by kernel_rfl) (by kernel_rfl) (fun _ _ _ h => h) (Or.inl ⟨by rfl, ?_⟩) (by assumption) ?_
    · (intro w' hSw; (try dsimp only at hSw); go_simp)
    try simp only [Act.put, List.setIfInBounds_toArray, List.set_cons_zero, List.set_cons_succ]
    refine wpAnyH_take (i := 15) (oi := _) (v := .int .i64 r.2.1) rfl (by kernel_rfl) (by kernel_rfl) (by kernel_rfl) (fun _ _ _ h => h) (Or.inl ⟨by rfl, ?_⟩) (by assumption) ?_
    · (intro w' hSw; (try dsimp only at hSw); go_simp)
    try simp only [Act.put, List.setIfInBounds_toArray, List.set_cons_zero, List.set_cons_succ]
    refine wpAnyH_take (i := 16) (oi := _) (v := .int .i64 r.2.2) rfl (by kernel_rfl) (by kernel_rfl) (by kernel_rfl) (fun _ _ _ h => h) (Or.inl ⟨by rfl, ?_⟩) (by assumption) ?_
    · (intro w' hSw; (try dsimp only at hSw); go_simp)
    try simp only [Act.put, List.setIfInBounds_toArray, List.set_cons_zero, List.set_cons_succ]
    refine wpAnyH_ready (rs := [17]) (by kernel_rfl) (by simp) ?_
    refine AllReadyH.cons (o := _) rfl (fun K hK => ?_) AllReadyH.nil
    go_simp
    refine hK.out _ _ (by first | (with_reducible exact ke3.out) | (with_reducible exact ke4.out) | (with_reducible exact ke5.out) | (with_reducible exact ke6.out)) (fun hHeld2 => ?_)
    clear hK K hHeld
    have hHeld := hHeld2
    clear hHeld2
    try simp only [Act.put, List.setIfInBounds_toArray, List.set_cons_zero, List.set_cons_succ]
    refine wpAnyH_ready (rs := [18]) (by kernel_rfl) (by simp) ?_
    refine AllReadyH.cons (o := _) rfl (fun K hK => ?_) AllReadyH.nil
    go_simp
    refine hK.out _ _ (by first | (with_reducible exact ke3.out) | (with_reducible exact ke4.out) | (with_reducible exact ke5.out) | (with_reducible exact ke6.out)) (fun hHeld2 => ?_)
    clear hK K hHeld
    have hHeld := hHeld2
    clear hHeld2
    try simp only [Act.put, List.setIfInBounds_toArray, List.set_cons_zero, List.set_cons_succ]
    refine wpAnyH_takeD (i := 19) (d := 13) (oi := _) (v := .int .i64 r.2.1) rfl (by rfl) (by kernel_rfl) (by kernel_rfl) (by kernel_rfl) (fun _ _ _ h => h) (Or.inl ⟨by rfl, ?_⟩) (by assumption) ?_
    · (intro w' hSw; (try dsimp only at hSw); go_simp)
    try simp only [Act.put, List.setIfInBounds_toArray, List.set_cons_zero, List.set_cons_succ]
    refine wpAnyH_takeD (i := 20) (d := 14) (oi := _) (v := .int .i64 r.2.2) rfl (by rfl) (by kernel_rfl) (by kernel_rfl) (by kernel_rfl) (fun _ _ _ h => h) (Or.inl ⟨by rfl, ?_⟩) (by assumption) ?_
    · (intro w' hSw; (try dsimp only at hSw); go_simp)
    try simp only [Act.put, List.setIfInBounds_toArray, List.set_cons_zero, List.set_cons_succ]
    refine wpAnyH_done (by kernel_rfl) ?_ _
    refine NoPanic.normal ?_
    exact ⟨rfl, w4.heap.size, ra, rc, _, _, _, _, _, _, _, _, _, _, _, _, _, _, _, _, _, rfl, Go.heap_alloc_new w4 _, HB4.out.size, bel0 _ HB4.out, HRg4.out, HCl4.out.keep (bel0 _ (Below.refl _ _))⟩
  · go_simp
    refine hK.out _ _ (by first | (with_reducible exact kd1.out) | (with_reducible exact kd2.out) | (with_reducible exact kd3.out)) (fun hHeld2 => ?_)
    clear hK K hHeld
    have hHeld := hHeld2
    clear hHeld2
    try simp only [Act.put, List.setIfInBounds_toArray, List.set_cons_zero, List.set_cons_succ]
    refine wpAnyH_ready (rs := [12]) (by kernel_rfl) (by simp) ?_
    refine AllReadyH.cons (o := _) rfl (fun K hK => ?_) AllReadyH.nil
    go_simp
    go_at_call 61
    refine (HIc.out _ ?hw).mono ?_
    (case hw => (first | (with_reducible exact kb0.out) | (with_reducible exact kb1.out) | (with_reducible exact kb2.out)))
    rintro e' w4 ⟨⟨vv, rfl, ra, rc, rfl, hcrg, hcl⟩, hb4⟩
    rw [ctX_arrO]
    have HRg4 := Lib.hid hcrg
    have hX4 : w4.heap[wr.heap.size]? = some (.cells #[.int .i64 0, .string ⟨#[]⟩, .int .i64 0, .int .i64 0, .string ⟨#[]⟩, .int .i64 0, .int .i64 0, .slice none 0 0] 56 (0, 0)) := (by with_reducible exact alloc_drew_block hb4); have HX4 := Lib.hid hX4; have HB4 := Lib.hid (show Below wr.heap.size wr w4 by with_reducible exact alloc_drew_below hb4); have HCl4 := Lib.hid (show CL w4 (fun b => wr.heap.size + 1 ≤ b) ra r.1.parts by with_reducible exact alloc_drew_cl hcl); obtain ⟨y0, y1, y2, y3, y4, y5, y6, y7, z0, z1, z2, z3, z4, z5, z6, z7, c7⟩ := z8 hX4; have ke1 := Lib.hid (HKp.out w4 HB4.out); have ke2 := Lib.hid (HKp.out w4.drew HB4.out.drew); have kf1 := Lib.hid (HKp.out _ (st8_below (Nat.le_refl _) HB4.out (.int .i64 r.1.kind) (.string r.1.op) (.int .i64 r.1.vk) (.int .i64 r.1.vn) (.string r.1.vs) (.int .i64 r.1.src) (.int .i64 r.1.col) (.slice ra r.1.parts.length rc))); have kf2 := Lib.hid (HKp.out _ (st8_below (Nat.le_refl _) HB4.out (.int .i64 r.1.kind) (.string r.1.op) (.int .i64 r.1.vk) (.int .i64 r.1.vn) (.string r.1.vs) (.int .i64 r.1.src) (.int .i64 r.1.col) (.slice ra r.1.parts.length rc)).drew); clear hX4 hb4 hcrg hcl
    refine hK.out _ _ (by first | (with_reducible exact ke1.out) | (with_reducible exact ke2.out)) (fun hHeld2 => ?_)
    clear hK K hHeld
    have hHeld := hHeld2
    clear hHeld2
    try simp only [Act.put, List.setIfInBounds_toArray, List.set_cons_zero, List.set_cons_succ]
    refine wpAnyH_take (i := 13) (oi := _) (v := .tuple #[.agg #[.int .i64 r.1.kind, .string r.1.op, .int .i64 r.1.vk, .int .i64 r.1.vn, .string r.1.vs, .int .i64 r.1.src, .int .i64 r.1.col, .slice ra r.1.parts.length rc], .int .i64 r.2.1, .int .i64 r.2.2]) rfl (by kernel_rfl) (by kernel_rfl) (by kernel_rfl) (fun _ _ _ h => h) (Or.inl ⟨by rfl, ?_⟩) (by assumption) ?_
    · (intro w' hSw; (try dsimp only at hSw); go_simp)
    try simp only [Act.put, List.setIfInBounds_toArray, List.set_cons_zero, List.set_cons_succ]
    refine wpAnyH_take (i := 14) (oi := _) (v := .agg #[.int .i64 r.1.kind, .string r.1.op, .int .i64 r.1.vk, .int .i64 r.1.vn, .string r.1.vs, .int .i64 r.1.src, .int .i64 r.1.col, .slice ra r.1.parts.length rc]) rfl (by kernel_rfl) (by kernel_rfl) (by kernel_rfl) (fun _ _ _ h => h) (Or.inl ⟨by rfl, ?_⟩) (by assumption) ?_
    · (intro w' hSw; (try dsimp only at hSw); go_simp)
    try simp only [Act.put, List.setIfInBounds_toArray, List.set_cons_zero, List.set_cons_succ]
    refine wpAnyH_take (i := 15) (oi := _) (v := .int .i64 r.2.1) rfl (by kernel_rfl) (by kernel_rfl) (by kernel_rfl) (fun _ _ _ h => h) (Or.inl ⟨by rfl, ?_⟩) (by assumption) ?_
    · (intro w' hSw; (try dsimp only at hSw); go_simp)
    try simp only [Act.put, List.setIfInBounds_toArray, List.set_cons_zero, List.set_cons_succ]
    refine wpAnyH_take (i := 16) (oi := _) (v := .int .i64 r.2.2) rfl (by kernel_rfl) (by kernel_rfl) (by kernel_rfl) (fun _ _ _ h => h) (Or.inl ⟨by rfl, ?_⟩) (by assumption) ?_
    · (intro w' hSw; (try dsimp only at hSw); go_simp)
    try simp only [Act.put, List.setIfInBounds_toArray, List.set_cons_zero, List.set_cons_succ]
    refine wpAnyH_ready (rs := [18]) (by kernel_rfl) (by simp) ?_
    refine AllReadyH.cons (o := _) rfl (fun K hK => ?_) AllReadyH.nil
    go_simp
    refine hK.out _ _ (by first | (with_reducible exact kf1.out) | (with_reducible exact kf2.out)) (fun hHeld2 => ?_)
    clear hK K hHeld
    have hHeld := hHeld2
    clear hHeld2
    try simp only [Act.put, List.setIfInBounds_toArray, List.set_cons_zero, List.set_cons_succ]
    refine wpAnyH_takeD (i := 19) (d := 13) (oi := _) (v := .int .i64 r.2.1) rfl (by rfl) (by kernel_rfl) (by kernel_rfl) (by kernel_rfl) (fun _ _ _ h => h) (Or.inl ⟨by rfl, ?_⟩) (by assumption) ?_
    · (intro w' hSw; (try dsimp only at hSw); go_simp)
    try simp only [Act.put, List.setIfInBounds_toArray, List.set_cons_zero, List.set_cons_succ]
    refine wpAnyH_takeD (i := 20) (d := 14) (oi := _) (v := .int .i64 r.2.2) rfl (by rfl) (by kernel_rfl) (by kernel_rfl) (by kernel_rfl) (fun _ _ _ h => h) (Or.inl ⟨by rfl, ?_⟩) (by assumption) ?_
    · (intro w' hSw; (try dsimp only at hSw); go_simp)
    try simp only [Act.put, List.setIfInBounds_toArray, List.set_cons_zero, List.set_cons_succ]
    refine wpAnyH_done (by kernel_rfl) ?_ _
    refine NoPanic.normal ?_
    exact ⟨rfl, wr.heap.size, ra, rc, _, _, _, _, _, _, _, _, _, _, _, _, _, _, _, _, _, rfl, box8 HX4.out (.int .i64 r.1.kind) (.string r.1.op) (.int .i64 r.1.vk) (.int .i64 r.1.vn) (.string r.1.vs) (.int .i64 r.1.src) (.int .i64 r.1.col) (.slice ra r.1.parts.length rc), Nat.le_refl _, st8_below (Nat.le_refl _) HB4.out (.int .i64 r.1.kind) (.string r.1.op) (.int .i64 r.1.vk) (.int .i64 r.1.vn) (.string r.1.vs) (.int .i64 r.1.src) (.int .i64 r.1.col) (.slice ra r.1.parts.length rc), HRg4.out, (cl_set8 (Nat.lt_succ_self _) HCl4.out (.int .i64 r.1.kind) (.string r.1.op) (.int .i64 r.1.vk) (.int .i64 r.1.vn) (.string r.1.vs) (.int .i64 r.1.src) (.int .i64 r.1.col) (.slice ra r.1.parts.length rc)).mono (fun b hb _ => Nat.le_of_succ_le hb)⟩
end Go.Proofs.Ytafhgilikcablaa
namespace Go.Proofs.Ytafhgilikcablaa
open Go.RowKit
set_option linter.unusedVariables false
set_option linter.unusedSimpArgs false
set_option maxRecDepth 100000
set_option maxHeartbeats 12800000 in
theorem rc11_1 (D E b off n scp j pc : Nat) (kind : Int) (p : ET) (pa : Option Addr) (r : CT × Int × Int) (wr : World) (x1 x3 x5 x6 x7 x8 x9 x10 x12 x13 x14 x15 x16 x17 x18 x19 x20 x21 x22 x23 x24 x25 x26 x27 x28 x29 x30 x31 x32 x33 x34 x35 x36 x37 x38 x39 x40 x41 x42 x43 x44 x45 x46 x47 x48 x49 x50 x51 x52 x53 x54 x55 x56 x57 x58 x59 x60 x61 x62 x63 x64 x65 x66 x67 x68 x69 x70 x71 x72 x73 x74 x75 x76 x77 x78 x79 x80 x81 x82 x83 x84 x85 x86 x87 x88 x89 x90 x91 x92 x93 x94 x95 x96 x97 : Value)
    (hKp : ∀ W : World, Below wr.heap.size wr W → (W.cell? ⟨E, 0, none⟩ = some (.int .i64 kind) ∧ W.cell? ⟨E, 7, none⟩ = some (.slice (some ⟨b, off, none⟩) n scp) ∧ W.cell? ⟨b, off + j * 8, none⟩ = some (.int .i64 p.kind) ∧ W.cell? ⟨b, off + j * 8 + 1, none⟩ = some (.string p.op) ∧ W.cell? ⟨b, off + j * 8 + 2, none⟩ = some (.int .i64 p.vk) ∧ W.cell? ⟨b, off + j * 8 + 3, none⟩ = some (.int .i64 p.vn) ∧ W.cell? ⟨b, off + j * 8 + 4, none⟩ = some (.string p.vs) ∧ W.cell? ⟨b, off + j * 8 + 5, none⟩ = some (.string p.tab) ∧ W.cell? ⟨b, off + j * 8 + 6, none⟩ = some (.string p.col) ∧ W.cell? ⟨b, off + j * 8 + 7, none⟩ = some (.slice pa p.parts.length pc))) (hj : j < n) (hn : n ≤ 1000) (hk6 : (kind != 6) = false)
    (hIc : ∀ W : World, Below wr.heap.size wr W → Calls Try.prog 61 #[.pointer (some ⟨D, 0, none⟩), .agg #[.int .i64 p.kind, .string p.op, .int .i64 p.vk, .int .i64 p.vn, .string p.vs, .string p.tab, .string p.col, .slice pa p.parts.length pc], .bool false] W (CellAns W r)) :
    Rc11.wp Try.prog (fun e a' wx => e = .normal ∧ ∃ (Bx : Nat) (ra : Option Addr) (rc : Nat) (u46 u47 u48 u49 u50 u51 u52 u53 u54 u55 u56 u57 u58 u59 u60 u61 u62 : Value), a' = ⟨#[.pointer (some ⟨D, 0, none⟩), x1, .bool true, x3, .pointer (some ⟨E, 0, none⟩), x5, x6, x7, x8, x9, x10, .int .i64 (j : Int), .pointer (some ⟨Bx, 0, none⟩), .int .i64 r.2.1, .int .i64 r.2.2, x15, x16, x17, x18, x19, x20, x21, x22, x23, x24, x25, x26, x27, x28, x29, x30, x31, x32, x33, x34, x35, x36, x37, x38, x39, x40, x41, x42, x43, x44, x45, u46, u47, u48, u49, u50, u51, u52, u53, u54, u55, u56, u57, u58, u59, u60, u61, u62, x63, x64, x65, x66, x67, x68, x69, x70, x71, x72, x73, x74, x75, x76, x77, x78, x79, x80, x81, x82, x83, x84, x85, x86, x87, x88, x89, x90, x91, x92, x93, x94, x95, x96, x97], []⟩ ∧ wx.heap[Bx]? = some (.cells #[.int .i64 r.1.kind, .string r.1.op, .int .i64 r.1.vk, .int .i64 r.1.vn, .string r.1.vs, .int .i64 r.1.src, .int .i64 r.1.col, .slice ra r.1.parts.length rc] 56 (0, 0)) ∧ wr.heap.size ≤ Bx ∧ Below wr.heap.size wr wx ∧ CRg r.1 ra rc ∧ CL wx (fun b => wr.heap.size ≤ b) ra r.1.parts) ⟨#[.pointer (some ⟨D, 0, none⟩), x1, .bool true, x3, .pointer (some ⟨E, 0, none⟩), x5, x6, x7, x8, x9, x10, .int .i64 (j : Int), x12, x13, x14, x15, x16, x17, x18, x19, x20, x21, x22, x23, x24, x25, x26, x27, x28, x29, x30, x31, x32, x33, x34, x35, x36, x37, x38, x39, x40, x41, x42, x43, x44, x45, x46, x47, x48, x49, x50, x51, x52, x53, x54, x55, x56, x57, x58, x59, x60, x61, x62, x63, x64, x65, x66, x67, x68, x69, x70, x71, x72, x73, x74, x75, x76, x77, x78, x79, x80, x81, x82, x83, x84, x85, x86, x87, x88, x89, x90, x91, x92, x93, x94, x95, x96, x97], []⟩ wr := by
  have HKp := Lib.hid hKp
  have HIc := Lib.hid hIc
  have hj0 : (0 : Int) ≤ (j : Int) := by omega
  have hji : (j : Int) < (n : Int) := by omega
  obtain ⟨s0, s1, s2, s3, s4, s5, s6, s7, s8, s9⟩ := HKp.out wr (Below.refl _ _)
  have hs1 : E < wr.heap.size := World.block_lt_of_cell? wr _ s0
  have hbw : b < wr.heap.size := World.block_lt_of_cell? wr _ s2
  have kb0 := Lib.hid (show Below wr.heap.size wr wr.drew from (Below.refl _ _).drew)
  have kb1 := Lib.hid (show Below wr.heap.size wr (wr.alloc (.cells #[.int .i64 0, .string ⟨#[]⟩, .int .i64 0, .int .i64 0, .string ⟨#[]⟩, .int .i64 0, .int .i64 0, .slice none 0 0] 56)).drew from (bel0 _ (Below.refl _ _)).drew)
  have kb2 := Lib.hid (show Below wr.heap.size wr (wr.drew.alloc (.cells #[.int .i64 0, .string ⟨#[]⟩, .int .i64 0, .int .i64 0, .string ⟨#[]⟩, .int .i64 0, .int .i64 0, .slice none 0 0] 56)) from (bel0 _ (Below.refl _ _).drew))
  have kd0 := Lib.hid (HKp.out wr.drew (Below.refl _ _).drew)
  have kd1 := Lib.hid (HKp.out (wr.alloc (.cells #[.int .i64 0, .string ⟨#[]⟩, .int .i64 0, .int .i64 0, .string ⟨#[]⟩, .int .i64 0, .int .i64 0, .slice none 0 0] 56)).drew (bel0 _ (Below.refl _ _)).drew)
  have kd2 := Lib.hid (HKp.out (wr.drew.alloc (.cells #[.int .i64 0, .string ⟨#[]⟩, .int .i64 0, .int .i64 0, .string ⟨#[]⟩, .int .i64 0, .int .i64 0, .slice none 0 0] 56)) (bel0 _ (Below.refl _ _).drew))
  have kd3 := Lib.hid (HKp.out (wr.alloc (.cells #[.int .i64 0, .string ⟨#[]⟩, .int .i64 0, .int .i64 0, .string ⟨#[]⟩, .int .i64 0, .int .i64 0, .slice none 0 0] 56)) (bel0 _ (Below.refl _ _)))
  clear hKp hIc hj hn
  conv => arg 2; whnf
  dsimp only
  refine wp_region_noPanic ?_
  refine wp_region_held_drew (S := fun W => (W.cell? ⟨E, 0, none⟩ = some (.int .i64 kind) ∧ W.cell? ⟨E, 7, none⟩ = some (.slice (some ⟨b, off, none⟩) n scp) ∧ W.cell? ⟨b, off + j * 8, none⟩ = some (.int .i64 p.kind) ∧ W.cell? ⟨b, off + j * 8 + 1, none⟩ = some (.string p.op) ∧ W.cell? ⟨b, off + j * 8 + 2, none⟩ = some (.int .i64 p.vk) ∧ W.cell? ⟨b, off + j * 8 + 3, none⟩ = some (.int .i64 p.vn) ∧ W.cell? ⟨b, off + j * 8 + 4, none⟩ = some (.string p.vs) ∧ W.cell? ⟨b, off + j * 8 + 5, none⟩ = some (.string p.tab) ∧ W.cell? ⟨b, off + j * 8 + 6, none⟩ = some (.string p.col) ∧ W.cell? ⟨b, off + j * 8 + 7, none⟩ = some (.slice pa p.parts.length pc))) (by kernel_rfl) kd0.out (fun hHeld => ?_)
  refine wpAnyH_take (i := 0) (oi := _) (v := .pointer (some ⟨D, 0, none⟩)) rfl (by kernel_rfl) (by kernel_rfl) (by kernel_rfl) (fun _ _ _ h => h) (Or.inl ⟨by rfl, ?_⟩) (by assumption) ?_
  · (intro w' hSw; (try dsimp only at hSw); go_simp)
  try simp only [Act.put, List.setIfInBounds_toArray, List.set_cons_zero, List.set_cons_succ]
  refine wpAnyH_take (i := 1) (oi := _) (v := .pointer (some ⟨E, 7, none⟩)) rfl (by kernel_rfl) (by kernel_rfl) (by kernel_rfl) (fun _ _ _ h => h) (Or.inl ⟨by rfl, ?_⟩) (by assumption) ?_
  · (intro w' hSw; (try dsimp only at hSw); go_simp)
  try simp only [Act.put, List.setIfInBounds_toArray, List.set_cons_zero, List.set_cons_succ]
  refine wpAnyH_take (i := 2) (oi := _) (v := .slice (some ⟨b, off, none⟩) n scp) rfl (by kernel_rfl) (by kernel_rfl) (by kernel_rfl) (fun _ _ _ h => h) (Or.inl ⟨by rfl, ?_⟩) (by assumption) ?_
  · (intro w' hSw; (try dsimp only at hSw); go_simp)
  try simp only [Act.put, List.setIfInBounds_toArray, List.set_cons_zero, List.set_cons_succ]
  refine wpAnyH_take (i := 3) (oi := _) (v := .int .i64 (j : Int)) rfl (by kernel_rfl) (by kernel_rfl) (by kernel_rfl) (fun _ _ _ h => h) (Or.inl ⟨by rfl, ?_⟩) (by assumption) ?_
  · (intro w' hSw; (try dsimp only at hSw); go_simp)
  try simp only [Act.put, List.setIfInBounds_toArray, List.set_cons_zero, List.set_cons_succ]
  refine wpAnyH_take (i := 4) (oi := _) (v := .pointer (some ⟨b, off + j * 8, none⟩)) rfl (by kernel_rfl) (by kernel_rfl) (by kernel_rfl) (fun _ _ _ h => h) (Or.inl ⟨by rfl, ?_⟩) (by assumption) ?_
  · (intro w' hSw; (try dsimp only at hSw); go_simp)
  try simp only [Act.put, List.setIfInBounds_toArray, List.set_cons_zero, List.set_cons_succ]
  refine wpAnyH_take (i := 5) (oi := _) (v := .agg #[.int .i64 p.kind, .string p.op, .int .i64 p.vk, .int .i64 p.vn, .string p.vs, .string p.tab, .string p.col, .slice pa p.parts.length pc]) rfl (by kernel_rfl) (by kernel_rfl) (by kernel_rfl) (fun _ _ _ h => h) (Or.inl ⟨by rfl, ?_⟩) (by assumption) ?_
  · (intro w' hSw; (try dsimp only at hSw); go_simp)
  try simp only [Act.put, List.setIfInBounds_toArray, List.set_cons_zero, List.set_cons_succ]
  refine wpAnyH_take (i := 6) (oi := _) (v := .bool true) rfl (by kernel_rfl) (by kernel_rfl) (by kernel_rfl) (fun _ _ _ h => h) (Or.inl ⟨by rfl, ?_⟩) (by assumption) ?_
  · (intro w' hSw; (try dsimp only at hSw); go_simp)
  try simp only [Act.put, List.setIfInBounds_toArray, List.set_cons_zero, List.set_cons_succ]
  refine wpAnyH_take (i := 7) (oi := _) (v := .bool true) rfl (by kernel_rfl) (by kernel_rfl) (by kernel_rfl) (fun _ _ _ h => h) (Or.inl ⟨by rfl, ?_⟩) (by assumption) ?_
  · (intro w' hSw; (try dsimp only at hSw); go_simp)
  try simp only [Act.put, List.setIfInBounds_toArray, List.set_cons_zero, List.set_cons_succ]
  refine wpAnyH_take (i := 8) (oi := _) (v := .pointer (some ⟨E, 0, none⟩)) rfl (by kernel_rfl) (by kernel_rfl) (by kernel_rfl) (fun _ _ _ h => h) (Or.inl ⟨by simp [Region.wanted, yielded], ?_⟩) (by assumption) ?_
  · (intro w' hSw; (try dsimp only at hSw); go_simp)
  try simp only [Act.put, List.setIfInBounds_toArray, List.set_cons_zero, List.set_cons_succ]
  refine wpAnyH_take (i := 9) (oi := _) (v := .int .i64 kind) rfl (by kernel_rfl) (by kernel_rfl) (by kernel_rfl) (fun _ _ _ h => h) (Or.inl ⟨by simp [Region.wanted, yielded], ?_⟩) (by assumption) ?_
  · (intro w' hSw; (try dsimp only at hSw); go_simp)
  try simp only [Act.put, List.setIfInBounds_toArray, List.set_cons_zero, List.set_cons_succ]
  refine wpAnyH_take (i := 10) (oi := _) (v := .bool false) rfl (by kernel_rfl) (by kernel_rfl) (by kernel_rfl) (fun _ _ _ h => h) (Or.inl ⟨by simp [Region.wanted, yielded], ?_⟩) (by assumption) ?_
  · (intro w' hSw; (try dsimp only at hSw); go_simp)
  try simp only [Act.put, List.setIfInBounds_toArray, List.set_cons_zero, List.set_cons_succ]
  refine wpAnyH_take (i := 11) (oi := _) (v := .bool false) rfl (by kernel_rfl) (by kernel_rfl) (by kernel_rfl) (fun _ _ _ h => h) (Or.inl ⟨by rfl, ?_⟩) (by assumption) ?_
  · (intro w' hSw; (try dsimp only at hSw); go_simp)
  try simp only [Act.put, List.setIfInBounds_toArray, List.set_cons_zero, List.set_cons_succ]
  refine wpAnyH_ready (rs := [12, 17]) (by kernel_rfl) (by simp) ?_
  refine AllReadyH.cons (o := _) rfl (fun K hK => ?_) (AllReadyH.cons (o := _) rfl (fun K hK => ?_) AllReadyH.nil)
  · go_simp
    go_at_call 61
    refine (HIc.out _ ?hw).mono ?_
    (case hw => (first | (with_reducible exact kb0.out) | (with_reducible exact kb1.out) | (with_reducible exact kb2.out)))
    rintro e' w4 ⟨⟨vv, rfl, ra, rc, rfl, hcrg, hcl⟩, hb4⟩
    rw [ctX_arrO]
    have HRg4 := Lib.hid hcrg
    have HB4 := Lib.hid (show Below wr.heap.size wr w4 by with_reducible exact drew_below hb4); have HCl4 := Lib.hid (drew_cl hcl); have ke1 := Lib.hid (HKp.out w4 HB4.out); have ke2 := Lib.hid (HKp.out w4.drew HB4.out.drew); have ke3 := Lib.hid (HKp.out (w4.alloc (.cells #[.int .i64 0, .string ⟨#[]⟩, .int .i64 0, .int .i64 0, .string ⟨#[]⟩, .int .i64 0, .int .i64 0, .slice none 0 0] 56)) (bel0 _ HB4.out)); have ke4 := Lib.hid (HKp.out (w4.alloc (.cells #[.int .i64 0, .string ⟨#[]⟩, .int .i64 0, .int .i64 0, .string ⟨#[]⟩, .int .i64 0, .int .i64 0, .slice none 0 0] 56)).drew (bel0 _ HB4.out).drew); have ke5 := Lib.hid (HKp.out (w4.alloc (.cells #[.int .i64 r.1.kind, .string r.1.op, .int .i64 r.1.vk, .int .i64 r.1.vn, .string r.1.vs, .int .i64 r.1.src, .int .i64 r.1.col, .slice ra r.1.parts.length rc] 56)) (bel0 _ HB4.out)); have ke6 := Lib.hid (HKp.out (w4.alloc (.cells #[.int .i64 r.1.kind, .string r.1.op, .int .i64 r.1.vk, .int .i64 r.1.vn, .string r.1.vs, .int .i64 r.1.src, .int .i64 r.1.col, .slice ra r.1.parts.length rc] 56)).drew (bel0 _ HB4.out).drew); clear hb4 hcrg hcl
    refine hK.out _ _ (by first | (with_reducible exact ke1.out) | (with_reducible exact ke2.out)) (fun hHeld2 => ?_)
    clear hK K hHeld
    have hHeld := hHeld2
    clear hHeld2
    try simp only [Act.put, List.setIfInBounds_toArray, List.set_cons_zero, List.set_cons_succ]
    refine wpAnyH_take (i := 13) (oi := _) (v := .tuple #[.agg #[.int .i64 r.1.kind, .string r.1.op, .int .i64 r.1.vk, .int .i64 r.1.vn, .string r.1.vs, .int .i64 r.1.src, .int .i64 r.1.col, .slice ra r.1.parts.length rc], .int .i64 r.2.1, .int .i64 r.2.2]) rfl (by kernel_rfl) (by kernel_rfl) (by kernel_rfl) (fun _ _ _ h => h) (Or.inl ⟨by rfl, ?_⟩) (by assumption) ?_
    · (intro w' hSw; (try dsimp only at hSw); go_simp)
    try simp only [Act.put, List.setIfInBounds_toArray, List.set_cons_zero, List.set_cons_succ]
    refine wpAnyH_take (i := 14) (oi := _) (v := .agg #[.int .i64 r.1.kind, .string r.1.op, .int .i64 r.1.vk, .int .i64 r.1.vn, .string r.1.vs, .int .i64 r.1.src, .int .i64 r.1.col, .slice ra r.1.parts.length rc]) rfl (by kernel_rfl) (by kernel_rfl) (by kernel_rfl) (fun _ _ _ h => h) (Or.inl ⟨by rfl, ?_⟩) (by assumption) ?_
    · (intro w' hSw; (try dsimp only at hSw); go_simp)
    try simp only [Act.put, List.setIfInBounds_toArray, List.set_cons_zero, List.set_cons_succ]
    refine wpAnyH_take (i := 15) (oi := _) (v := .int .i64 r.2.1) rfl (by kernel_rfl) (by kernel_rfl) (by kernel_rfl) (fun _ _ _ h => h) (Or.inl ⟨by rfl, ?_⟩) (by assumption) ?_
    · (intro w' hSw; (try dsimp only at hSw); go_simp)
    try simp only [Act.put, List.setIfInBounds_toArray, List.set_cons_zero, List.set_cons_succ]
    refine wpAnyH_take (i := 16) (oi := _) (v := .int .i64 r.2.2) rfl (by kernel_rfl) (by kernel_rfl) (by kernel_rfl) (fun _ _ _ h => h) (Or.inl ⟨by rfl, ?_⟩) (by assumption) ?_
    · (intro w' hSw; (try dsimp only at hSw); go_simp)
    try simp only [Act.put, List.setIfInBounds_toArray, List.set_cons_zero, List.set_cons_succ]
    refine wpAnyH_ready (rs := [17]) (by kernel_rfl) (by simp) ?_
    refine AllReadyH.cons (o := _) rfl (fun K hK => ?_) AllReadyH.nil
    go_simp
    refine hK.out _ _ (by first | (with_reducible exact ke3.out) | (with_reducible exact ke4.out) | (with_reducible exact ke5.out) | (with_reducible exact ke6.out)) (fun hHeld2 => ?_)
    clear hK K hHeld
    have hHeld := hHeld2
    clear hHeld2
    try simp only [Act.put, List.setIfInBounds_toArray, List.set_cons_zero, List.set_cons_succ]
    refine wpAnyH_ready (rs := [18]) (by kernel_rfl) (by simp) ?_
    refine AllReadyH.cons (o := _) rfl (fun K hK => ?_) AllReadyH.nil
    go_simp
    refine hK.out _ _ (by first | (with_reducible exact ke3.out) | (with_reducible exact ke4.out) | (with_reducible exact ke5.out) | (with_reducible exact ke6.out)) (fun hHeld2 => ?_)
    clear hK K hHeld
    have hHeld := hHeld2
    clear hHeld2
    try simp only [Act.put, List.setIfInBounds_toArray, List.set_cons_zero, List.set_cons_succ]
    refine wpAnyH_takeD (i := 19) (d := 13) (oi := _) (v := .int .i64 r.2.1) rfl (by rfl) (by kernel_rfl) (by kernel_rfl) (by kernel_rfl) (fun _ _ _ h => h) (Or.inl ⟨by rfl, ?_⟩) (by assumption) ?_
    · (intro w' hSw; (try dsimp only at hSw); go_simp)
    try simp only [Act.put, List.setIfInBounds_toArray, List.set_cons_zero, List.set_cons_succ]
    refine wpAnyH_takeD (i := 20) (d := 14) (oi := _) (v := .int .i64 r.2.2) rfl (by rfl) (by kernel_rfl) (by kernel_rfl) (by kernel_rfl) (fun _ _ _ h => h) (Or.inl ⟨by rfl, ?_⟩) (by assumption) ?_
    · (intro w' hSw; (try dsimp only at hSw); go_simp)
    try simp only [Act.put, List.setIfInBounds_toArray, List.set_cons_zero, List.set_cons_succ]
    refine wpAnyH_done (by kernel_rfl) ?_ _
    refine NoPanic.normal ?_
    exact ⟨rfl, w4.heap.size, ra, rc, _, _, _, _, _, _, _, _, _, _, _, _, _, _, _, _, _, rfl, Go.heap_alloc_new w4 _, HB4.out.size, bel0 _ HB4.out, HRg4.out, HCl4.out.keep (bel0 _ (Below.refl _ _))⟩
  · go_simp
    refine hK.out _ _ (by first | (with_reducible exact kd1.out) | (with_reducible exact kd2.out) | (with_reducible exact kd3.out)) (fun hHeld2 => ?_)
    clear hK K hHeld
    have hHeld := hHeld2
    clear hHeld2
    try simp only [Act.put, List.setIfInBounds_toArray, List.set_cons_zero, List.set_cons_succ]
    refine wpAnyH_ready (rs := [12]) (by kernel_rfl) (by simp) ?_
    refine AllReadyH.cons (o := _) rfl (fun K hK => ?_) AllReadyH.nil
    go_simp
    go_at_call 61
    refine (HIc.out _ ?hw).mono ?_
    (case hw => (first | (with_reducible exact kb0.out) | (with_reducible exact kb1.out) | (with_reducible exact kb2.out)))
    rintro e' w4 ⟨⟨vv, rfl, ra, rc, rfl, hcrg, hcl⟩, hb4⟩
    rw [ctX_arrO]
    have HRg4 := Lib.hid hcrg
    have hX4 : w4.heap[wr.heap.size]? = some (.cells #[.int .i64 0, .string ⟨#[]⟩, .int .i64 0, .int .i64 0, .string ⟨#[]⟩, .int .i64 0, .int .i64 0, .slice none 0 0] 56 (0, 0)) := (by with_reducible exact alloc_drew_block hb4); have HX4 := Lib.hid hX4; have HB4 := Lib.hid (show Below wr.heap.size wr w4 by with_reducible exact alloc_drew_below hb4); have HCl4 := Lib.hid (show CL w4 (fun b => wr.heap.size + 1 ≤ b) ra r.1.parts by with_reducible exact alloc_drew_cl hcl); obtain ⟨y0, y1, y2, y3, y4, y5, y6, y7, z0, z1, z2, z3, z4, z5, z6, z7, c7⟩ := z8 hX4; have ke1 := Lib.hid (HKp.out w4 HB4.out); have ke2 := Lib.hid (HKp.out w4.drew HB4.out.drew); have kf1 := Lib.hid (HKp.out _ (st8_below (Nat.le_refl _) HB4.out (.int .i64 r.1.kind) (.string r.1.op) (.int .i64 r.1.vk) (.int .i64 r.1.vn) (.string r.1.vs) (.int .i64 r.1.src) (.int .i64 r.1.col) (.slice ra r.1.parts.length rc))); have kf2 := Lib.hid (HKp.out _ (st8_below (Nat.le_refl _) HB4.out (.int .i64 r.1.kind) (.string r.1.op) (.int .i64 r.1.vk) (.int .i64 r.1.vn) (.string r.1.vs) (.int .i64 r.1.src) (.int .i64 r.1.col) (.slice ra r.1.parts.length rc)).drew); clear hX4 hb4 hcrg hcl
    refine hK.out _ _ (by first | (with_reducible exact ke1.out) | (with_reducible exact ke2.out)) (fun hHeld2 => ?_)
    clear hK K hHeld
    have hHeld := hHeld2
    clear hHeld2
    try simp only [Act.put, List.setIfInBounds_toArray, List.set_cons_zero, List.set_cons_succ]
    refine wpAnyH_take (i := 13) (oi := _) (v := .tuple #[.agg #[.int .i64 r.1.kind, .string r.1.op, .int .i64 r.1.vk, .int .i64 r.1.vn, .string r.1.vs, .int .i64 r.1.src, .int .i64 r.1.col, .slice ra r.1.parts.length rc], .int .i64 r.2.1, .int .i64 r.2.2]) rfl (by kernel_rfl) (by kernel_rfl) (by kernel_rfl) (fun _ _ _ h => h) (Or.inl ⟨by rfl, ?_⟩) (by assumption) ?_
    · (intro w' hSw; (try dsimp only at hSw); go_simp)
    try simp only [Act.put, List.setIfInBounds_toArray, List.set_cons_zero, List.set_cons_succ]
    refine wpAnyH_take (i := 14) (oi := _) (v := .agg #[.int .i64 r.1.kind, .string r.1.op, .int .i64 r.1.vk, .int .i64 r.1.vn, .string r.1.vs, .int .i64 r.1.src, .int .i64 r.1.col, .slice ra r.1.parts.length rc]) rfl (by kernel_rfl) (by kernel_rfl) (by kernel_rfl) (fun _ _ _ h => h) (Or.inl ⟨by rfl, ?_⟩) (by assumption) ?_
    · (intro w' hSw; (try dsimp only at hSw); go_simp)
    try simp only [Act.put, List.setIfInBounds_toArray, List.set_cons_zero, List.set_cons_succ]
    refine wpAnyH_take (i := 15) (oi := _) (v := .int .i64 r.2.1) rfl (by kernel_rfl) (by kernel_rfl) (by kernel_rfl) (fun _ _ _ h => h) (Or.inl ⟨by rfl, ?_⟩) (by assumption) ?_
    · (intro w' hSw; (try dsimp only at hSw); go_simp)
    try simp only [Act.put, List.setIfInBounds_toArray, List.set_cons_zero, List.set_cons_succ]
    refine wpAnyH_take (i := 16) (oi := _) (v := .int .i64 r.2.2) rfl (by kernel_rfl) (by kernel_rfl) (by kernel_rfl) (fun _ _ _ h => h) (Or.inl ⟨by rfl, ?_⟩) (by assumption) ?_
    · (intro w' hSw; (try dsimp only at hSw); go_simp)
    try simp only [Act.put, List.setIfInBounds_toArray, List.set_cons_zero, List.set_cons_succ]
    refine wpAnyH_ready (rs := [18]) (by kernel_rfl) (by simp) ?_
    refine AllReadyH.cons (o := _) rfl (fun K hK => ?_) AllReadyH.nil
    go_simp
    refine hK.out _ _ (by first | (with_reducible exact kf1.out) | (with_reducible exact kf2.out)) (fun hHeld2 => ?_)
    clear hK K hHeld
    have hHeld := hHeld2
    clear hHeld2
    try simp only [Act.put, List.setIfInBounds_toArray, List.set_cons_zero, List.set_cons_succ]
    refine wpAnyH_takeD (i := 19) (d := 13) (oi := _) (v := .int .i64 r.2.1) rfl (by rfl) (by kernel_rfl) (by kernel_rfl) (by kernel_rfl) (fun _ _ _ h => h) (Or.inl ⟨by rfl, ?_⟩) (by assumption) ?_
    · (intro w' hSw; (try dsimp only at hSw); go_simp)
    try simp only [Act.put, List.setIfInBounds_toArray, List.set_cons_zero, List.set_cons_succ]
    refine wpAnyH_takeD (i := 20) (d := 14) (oi := _) (v := .int .i64 r.2.2) rfl (by rfl) (by kernel_rfl) (by kernel_rfl) (by kernel_rfl) (fun _ _ _ h => h) (Or.inl ⟨by rfl, ?_⟩) (by assumption) ?_
    · (intro w' hSw; (try dsimp only at hSw); go_simp)
    try simp only [Act.put, List.setIfInBounds_toArray, List.set_cons_zero, List.set_cons_succ]
    refine wpAnyH_done (by kernel_rfl) ?_ _
    refine NoPanic.normal ?_
    exact ⟨rfl, wr.heap.size, ra, rc, _, _, _, _, _, _, _, _, _, _, _, _, _, _, _, _, _, rfl, box8 HX4.out (.int .i64 r.1.kind) (.string r.1.op) (.int .i64 r.1.vk) (.int .i64 r.1.vn) (.string r.1.vs) (.int .i64 r.1.src) (.int .i64 r.1.col) (.slice ra r.1.parts.length rc), Nat.le_refl _, st8_below (Nat.le_refl _) HB4.out (.int .i64 r.1.kind) (.string r.1.op) (.int .i64 r.1.vk) (.int .i64 r.1.vn) (.string r.1.vs) (.int .i64 r.1.src) (.int .i64 r.1.col) (.slice ra r.1.parts.length rc), HRg4.out, (cl_set8 (Nat.lt_succ_self _) HCl4.out (.int .i64 r.1.kind) (.string r.1.op) (.int .i64 r.1.vk) (.int .i64 r.1.vn) (.string r.1.vs) (.int .i64 r.1.src) (.int .i64 r.1.col) (.slice ra r.1.parts.length rc)).mono (fun b hb _ => Nat.le_of_succ_le hb)⟩
end Go.Proofs.Ytafhgilikcablaa
namespace Go.Proofs.Ytafhgilikcablaa
open Go.RowKit
set_option linter.unusedVariables false
set_option linter.unusedSimpArgs false
set_option maxRecDepth 100000
set_option maxHeartbeats 12800000 in
theorem rc11_2 (D E b off n scp j pc : Nat) (kind : Int) (p : ET) (pa : Option Addr) (r : CT × Int × Int) (wr : World) (x1 x3 x5 x6 x7 x8 x9 x10 x12 x13 x14 x15 x16 x17 x18 x19 x20 x21 x22 x23 x24 x25 x26 x27 x28 x29 x30 x31 x32 x33 x34 x35 x36 x37 x38 x39 x40 x41 x42 x43 x44 x45 x46 x47 x48 x49 x50 x51 x52 x53 x54 x55 x56 x57 x58 x59 x60 x61 x62 x63 x64 x65 x66 x67 x68 x69 x70 x71 x72 x73 x74 x75 x76 x77 x78 x79 x80 x81 x82 x83 x84 x85 x86 x87 x88 x89 x90 x91 x92 x93 x94 x95 x96 x97 : Value)
    (hKp : ∀ W : World, Below wr.heap.size wr W → (W.cell? ⟨E, 0, none⟩ = some (.int .i64 kind) ∧ W.cell? ⟨E, 7, none⟩ = some (.slice (some ⟨b, off, none⟩) n scp) ∧ W.cell? ⟨b, off + j * 8, none⟩ = some (.int .i64 p.kind) ∧ W.cell? ⟨b, off + j * 8 + 1, none⟩ = some (.string p.op) ∧ W.cell? ⟨b, off + j * 8 + 2, none⟩ = some (.int .i64 p.vk) ∧ W.cell? ⟨b, off + j * 8 + 3, none⟩ = some (.int .i64 p.vn) ∧ W.cell? ⟨b, off + j * 8 + 4, none⟩ = some (.string p.vs) ∧ W.cell? ⟨b, off + j * 8 + 5, none⟩ = some (.string p.tab) ∧ W.cell? ⟨b, off + j * 8 + 6, none⟩ = some (.string p.col) ∧ W.cell? ⟨b, off + j * 8 + 7, none⟩ = some (.slice pa p.parts.length pc))) (hj : j < n) (hn : n ≤ 1000) (hk6 : (kind != 6) = true)
    (hIc : ∀ W : World, Below wr.heap.size wr W → Calls Try.prog 61 #[.pointer (some ⟨D, 0, none⟩), .agg #[.int .i64 p.kind, .string p.op, .int .i64 p.vk, .int .i64 p.vn, .string p.vs, .string p.tab, .string p.col, .slice pa p.parts.length pc], .bool true] W (CellAns W r)) :
    Rc11.wp Try.prog (fun e a' wx => e = .normal ∧ ∃ (Bx : Nat) (ra : Option Addr) (rc : Nat) (u46 u47 u48 u49 u50 u51 u52 u53 u54 u55 u56 u57 u58 u59 u60 u61 u62 : Value), a' = ⟨#[.pointer (some ⟨D, 0, none⟩), x1, .bool true, x3, .pointer (some ⟨E, 0, none⟩), x5, x6, x7, x8, x9, x10, .int .i64 (j : Int), .pointer (some ⟨Bx, 0, none⟩), .int .i64 r.2.1, .int .i64 r.2.2, x15, x16, x17, x18, x19, x20, x21, x22, x23, x24, x25, x26, x27, x28, x29, x30, x31, x32, x33, x34, x35, x36, x37, x38, x39, x40, x41, x42, x43, x44, x45, u46, u47, u48, u49, u50, u51, u52, u53, u54, u55, u56, u57, u58, u59, u60, u61, u62, x63, x64, x65, x66, x67, x68, x69, x70, x71, x72, x73, x74, x75, x76, x77, x78, x79, x80, x81, x82, x83, x84, x85, x86, x87, x88, x89, x90, x91, x92, x93, x94, x95, x96, x97], []⟩ ∧ wx.heap[Bx]? = some (.cells #[.int .i64 r.1.kind, .string r.1.op, .int .i64 r.1.vk, .int .i64 r.1.vn, .string r.1.vs, .int .i64 r.1.src, .int .i64 r.1.col, .slice ra r.1.parts.length rc] 56 (0, 0)) ∧ wr.heap.size ≤ Bx ∧ Below wr.heap.size wr wx ∧ CRg r.1 ra rc ∧ CL wx (fun b => wr.heap.size ≤ b) ra r.1.parts) ⟨#[.pointer (some ⟨D, 0, none⟩), x1, .bool true, x3, .pointer (some ⟨E, 0, none⟩), x5, x6, x7, x8, x9, x10, .int .i64 (j : Int), x12, x13, x14, x15, x16, x17, x18, x19, x20, x21, x22, x23, x24, x25, x26, x27, x28, x29, x30, x31, x32, x33, x34, x35, x36, x37, x38, x39, x40, x41, x42, x43, x44, x45, x46, x47, x48, x49, x50, x51, x52, x53, x54, x55, x56, x57, x58, x59, x60, x61, x62, x63, x64, x65, x66, x67, x68, x69, x70, x71, x72, x73, x74, x75, x76, x77, x78, x79, x80, x81, x82, x83, x84, x85, x86, x87, x88, x89, x90, x91, x92, x93, x94, x95, x96, x97], []⟩ wr := by
  have HKp := Lib.hid hKp
  have HIc := Lib.hid hIc
  have hj0 : (0 : Int) ≤ (j : Int) := by omega
  have hji : (j : Int) < (n : Int) := by omega
  obtain ⟨s0, s1, s2, s3, s4, s5, s6, s7, s8, s9⟩ := HKp.out wr (Below.refl _ _)
  have hs1 : E < wr.heap.size := World.block_lt_of_cell? wr _ s0
  have hbw : b < wr.heap.size := World.block_lt_of_cell? wr _ s2
  have kb0 := Lib.hid (show Below wr.heap.size wr wr.drew from (Below.refl _ _).drew)
  have kb1 := Lib.hid (show Below wr.heap.size wr (wr.alloc (.cells #[.int .i64 0, .string ⟨#[]⟩, .int .i64 0, .int .i64 0, .string ⟨#[]⟩, .int .i64 0, .int .i64 0, .slice none 0 0] 56)).drew from (bel0 _ (Below.refl _ _)).drew)
  have kb2 := Lib.hid (show Below wr.heap.size wr (wr.drew.alloc (.cells #[.int .i64 0, .string ⟨#[]⟩, .int .i64 0, .int .i64 0, .string ⟨#[]⟩, .int .i64 0, .int .i64 0, .slice none 0 0] 56)) from (bel0 _ (Below.refl _ _).drew))
  have kd0 := Lib.hid (HKp.out wr.drew (Below.refl _ _).drew)
  have kd1 := Lib.hid (HKp.out (wr.alloc (.cells #[.int .i64 0, .string ⟨#[]⟩, .int .i64 0, .int .i64 0, .string ⟨#[]⟩, .int .i64 0, .int .i64 0, .slice none 0 0] 56)).drew (bel0 _ (Below.refl _ _)).drew)
  have kd2 := Lib.hid (HKp.out (wr.drew.alloc (.cells #[.int .i64 0, .string ⟨#[]⟩, .int .i64 0, .int .i64 0, .string ⟨#[]⟩, .int .i64 0, .int .i64 0, .slice none 0 0] 56)) (bel0 _ (Below.refl _ _).drew))
  have kd3 := Lib.hid (HKp.out (wr.alloc (.cells #[.int .i64 0, .string ⟨#[]⟩, .int .i64 0, .int .i64 0, .string ⟨#[]⟩, .int .i64 0, .int .i64 0, .slice none 0 0] 56)) (bel0 _ (Below.refl _ _)))
  clear hKp hIc hj hn
  conv => arg 2; whnf
  dsimp only
  refine wp_region_noPanic ?_
  refine wp_region_held_drew (S := fun W => (W.cell? ⟨E, 0, none⟩ = some (.int .i64 kind) ∧ W.cell? ⟨E, 7, none⟩ = some (.slice (some ⟨b, off, none⟩) n scp) ∧ W.cell? ⟨b, off + j * 8, none⟩ = some (.int .i64 p.kind) ∧ W.cell? ⟨b, off + j * 8 + 1, none⟩ = some (.string p.op) ∧ W.cell? ⟨b, off + j * 8 + 2, none⟩ = some (.int .i64 p.vk) ∧ W.cell? ⟨b, off + j * 8 + 3, none⟩ = some (.int .i64 p.vn) ∧ W.cell? ⟨b, off + j * 8 + 4, none⟩ = some (.string p.vs) ∧ W.cell? ⟨b, off + j * 8 + 5, none⟩ = some (.string p.tab) ∧ W.cell? ⟨b, off + j * 8 + 6, none⟩ = some (.string p.col) ∧ W.cell? ⟨b, off + j * 8 + 7, none⟩ = some (.slice pa p.parts.length pc))) (by kernel_rfl) kd0.out (fun hHeld => ?_)
  refine wpAnyH_take (i := 0) (oi := _) (v := .pointer (some ⟨D, 0, none⟩)) rfl (by kernel_rfl) (by kernel_rfl) (by kernel_rfl) (fun _ _ _ h => h) (Or.inl ⟨by rfl, ?_⟩) (by assumption) ?_
  · (intro w' hSw; (try dsimp only at hSw); go_simp)
  try simp only [Act.put, List.setIfInBounds_toArray, List.set_cons_zero, List.set_cons_succ]
  refine wpAnyH_take (i := 1) (oi := _) (v := .pointer (some ⟨E, 7, none⟩)) rfl (by kernel_rfl) (by kernel_rfl) (by kernel_rfl) (fun _ _ _ h => h) (Or.inl ⟨by rfl, ?_⟩) (by assumption) ?_
  · (intro w' hSw; (try dsimp only at hSw); go_simp)
  try simp only [Act.put, List.setIfInBounds_toArray, List.set_cons_zero, List.set_cons_succ]
  refine wpAnyH_take (i := 2) (oi := _) (v := .slice (some ⟨b, off, none⟩) n scp) rfl (by kernel_rfl) (by kernel_rfl) (by kernel_rfl) (fun _ _ _ h => h) (Or.inl ⟨by rfl, ?_⟩) (by assumption) ?_
  · (intro w' hSw; (try dsimp only at hSw); go_simp)
  try simp only [Act.put, List.setIfInBounds_toArray, List.set_cons_zero, List.set_cons_succ]
  refine wpAnyH_take (i := 3) (oi := _) (v := .int .i64 (j : Int)) rfl (by kernel_rfl) (by kernel_rfl) (by kernel_rfl) (fun _ _ _ h => h) (Or.inl ⟨by rfl, ?_⟩) (by assumption) ?_
  · (intro w' hSw; (try dsimp only at hSw); go_simp)
  try simp only [Act.put, List.setIfInBounds_toArray, List.set_cons_zero, List.set_cons_succ]
  refine wpAnyH_take (i := 4) (oi := _) (v := .pointer (some ⟨b, off + j * 8, none⟩)) rfl (by kernel_rfl) (by kernel_rfl) (by kernel_rfl) (fun _ _ _ h => h) (Or.inl ⟨by rfl, ?_⟩) (by assumption) ?_
  · (intro w' hSw; (try dsimp only at hSw); go_simp)
  try simp only [Act.put, List.setIfInBounds_toArray, List.set_cons_zero, List.set_cons_succ]
  refine wpAnyH_take (i := 5) (oi := _) (v := .agg #[.int .i64 p.kind, .string p.op, .int .i64 p.vk, .int .i64 p.vn, .string p.vs, .string p.tab, .string p.col, .slice pa p.parts.length pc]) rfl (by kernel_rfl) (by kernel_rfl) (by kernel_rfl) (fun _ _ _ h => h) (Or.inl ⟨by rfl, ?_⟩) (by assumption) ?_
  · (intro w' hSw; (try dsimp only at hSw); go_simp)
  try simp only [Act.put, List.setIfInBounds_toArray, List.set_cons_zero, List.set_cons_succ]
  refine wpAnyH_take (i := 6) (oi := _) (v := .bool true) rfl (by kernel_rfl) (by kernel_rfl) (by kernel_rfl) (fun _ _ _ h => h) (Or.inl ⟨by rfl, ?_⟩) (by assumption) ?_
  · (intro w' hSw; (try dsimp only at hSw); go_simp)
  try simp only [Act.put, List.setIfInBounds_toArray, List.set_cons_zero, List.set_cons_succ]
  refine wpAnyH_take (i := 7) (oi := _) (v := .bool true) rfl (by kernel_rfl) (by kernel_rfl) (by kernel_rfl) (fun _ _ _ h => h) (Or.inl ⟨by rfl, ?_⟩) (by assumption) ?_
  · (intro w' hSw; (try dsimp only at hSw); go_simp)
  try simp only [Act.put, List.setIfInBounds_toArray, List.set_cons_zero, List.set_cons_succ]
  refine wpAnyH_take (i := 8) (oi := _) (v := .pointer (some ⟨E, 0, none⟩)) rfl (by kernel_rfl) (by kernel_rfl) (by kernel_rfl) (fun _ _ _ h => h) (Or.inl ⟨by simp [Region.wanted, yielded], ?_⟩) (by assumption) ?_
  · (intro w' hSw; (try dsimp only at hSw); go_simp)
  try simp only [Act.put, List.setIfInBounds_toArray, List.set_cons_zero, List.set_cons_succ]
  refine wpAnyH_take (i := 9) (oi := _) (v := .int .i64 kind) rfl (by kernel_rfl) (by kernel_rfl) (by kernel_rfl) (fun _ _ _ h => h) (Or.inl ⟨by simp [Region.wanted, yielded], ?_⟩) (by assumption) ?_
  · (intro w' hSw; (try dsimp only at hSw); go_simp)
  try simp only [Act.put, List.setIfInBounds_toArray, List.set_cons_zero, List.set_cons_succ]
  refine wpAnyH_take (i := 10) (oi := _) (v := .bool true) rfl (by kernel_rfl) (by kernel_rfl) (by kernel_rfl) (fun _ _ _ h => h) (Or.inl ⟨by simp [Region.wanted, yielded], ?_⟩) (by assumption) ?_
  · (intro w' hSw; (try dsimp only at hSw); go_simp)
  try simp only [Act.put, List.setIfInBounds_toArray, List.set_cons_zero, List.set_cons_succ]
  refine wpAnyH_take (i := 11) (oi := _) (v := .bool true) rfl (by kernel_rfl) (by kernel_rfl) (by kernel_rfl) (fun _ _ _ h => h) (Or.inl ⟨by rfl, ?_⟩) (by assumption) ?_
  · (intro w' hSw; (try dsimp only at hSw); go_simp)
  try simp only [Act.put, List.setIfInBounds_toArray, List.set_cons_zero, List.set_cons_succ]
  refine wpAnyH_ready (rs := [12, 17]) (by kernel_rfl) (by simp) ?_
  refine AllReadyH.cons (o := _) rfl (fun K hK => ?_) (AllReadyH.cons (o := _) rfl (fun K hK => ?_) AllReadyH.nil)
  · go_simp
    go_at_call 61
    refine (HIc.out _ ?hw).mono ?_
    (case hw => (first | (with_reducible exact kb0.out) | (with_reducible exact kb1.out) | (with_reducible exact kb2.out)))
    rintro e' w4 ⟨⟨vv, rfl, ra, rc, rfl, hcrg, hcl⟩, hb4⟩
    rw [ctX_arrO]
    have HRg4 := Lib.hid hcrg
    have HB4 := Lib.hid (show Below wr.heap.size wr w4 by with_reducible exact drew_below hb4); have HCl4 := Lib.hid (drew_cl hcl); have ke1 := Lib.hid (HKp.out w4 HB4.out); have ke2 := Lib.hid (HKp.out w4.drew HB4.out.drew); have ke3 := Lib.hid (HKp.out (w4.alloc (.cells #[.int .i64 0, .string ⟨#[]⟩, .int .i64 0, .int .i64 0, .string ⟨#[]⟩, .int .i64 0, .int .i64 0, .slice none 0 0] 56)) (bel0 _ HB4.out)); have ke4 := Lib.hid (HKp.out (w4.alloc (.cells #[.int .i64 0, .string ⟨#[]⟩, .int .i64 0, .int .i64 0, .string ⟨#[]⟩, .int .i64 0, .int .i64 0, .slice none 0 0] 56)).drew (bel0 _ HB4.out).drew); have ke5 := Lib.hid (HKp.out (w4.alloc (.cells #[.int .i64 r.1.kind, .string r.1.op, .int .i64 r.1.vk, .int .i64 r.1.vn, .string r.1.vs, .int .i64 r.1.src, .int .i64 r.1.col, .slice ra r.1.parts.length rc] 56)) (bel0 _ HB4.out)); have ke6 := Lib.hid (HKp.out (w4.alloc (.cells #[.int .i64 r.1.kind, .string r.1.op, .int .i64 r.1.vk, .int .i64 r.1.vn, .string r.1.vs, .int .i64 r.1.src, .int .i64 r.1.col, .slice ra r.1.parts.length rc] 56)).drew (bel0 _ HB4.out).drew); clear hb4 hcrg hcl
    refine hK.out _ _ (by first | (with_reducible exact ke1.out) | (with_reducible exact ke2.out)) (fun hHeld2 => ?_)
    clear hK K hHeld
    have hHeld := hHeld2
    clear hHeld2
    try simp only [Act.put, List.setIfInBounds_toArray, List.set_cons_zero, List.set_cons_succ]
    refine wpAnyH_take (i := 13) (oi := _) (v := .tuple #[.agg #[.int .i64 r.1.kind, .string r.1.op, .int .i64 r.1.vk, .int .i64 r.1.vn, .string r.1.vs, .int .i64 r.1.src, .int .i64 r.1.col, .slice ra r.1.parts.length rc], .int .i64 r.2.1, .int .i64 r.2.2]) rfl (by kernel_rfl) (by kernel_rfl) (by kernel_rfl) (fun _ _ _ h => h) (Or.inl ⟨by rfl, ?_⟩) (by assumption) ?_
    · (intro w' hSw; (try dsimp only at hSw); go_simp)
    try simp only [Act.put, List.setIfInBounds_toArray, List.set_cons_zero, List.set_cons_succ]
    refine wpAnyH_take (i := 14) (oi := _) (v := .agg #[.int .i64 r.1.kind, .string r.1.op, .int .i64 r.1.vk, .int .i64 r.1.vn, .string r.1.vs, .int .i64 r.1.src, .int .i64 r.1.col, .slice ra r.1.parts.length rc]) rfl (by kernel_rfl) (by kernel_rfl) (by kernel_rfl) (fun _ _ _ h => h) (Or.inl ⟨by rfl, ?_⟩) (by assumption) ?_
    · (intro w' hSw; (try dsimp only at hSw); go_simp)
    try simp only [Act.put, List.setIfInBounds_toArray, List.set_cons_zero, List.set_cons_succ]
    refine wpAnyH_take (i := 15) (oi := _) (v := .int .i64 r.2.1) rfl (by kernel_rfl) (by kernel_rfl) (by kernel_rfl) (fun _ _ _ h => h) (Or.inl ⟨by rfl, ?_⟩) (by assumption) ?_
    · (intro w' hSw; (try dsimp only at hSw); go_simp)
    try simp only [Act.put, List.setIfInBounds_toArray, List.set_cons_zero, List.set_cons_succ]
    refine wpAnyH_take (i := 16) (oi := _) (v := .int .i64 r.2.2) rfl (by kernel_rfl) (by kernel_rfl) (by kernel_rfl) (fun _ _ _ h => h) (Or.inl ⟨by rfl, ?_⟩) (by assumption) ?_
    · (intro w' hSw; (try dsimp only at hSw); go_simp)
    try simp only [Act.put, List.setIfInBounds_toArray, List.set_cons_zero, List.set_cons_succ]
    refine wpAnyH_ready (rs := [17]) (by kernel_rfl) (by simp) ?_
    refine AllReadyH.cons (o := _) rfl (fun K hK => ?_) AllReadyH.nil
    go_simp
    refine hK.out _ _ (by first | (with_reducible exact ke3.out) | (with_reducible exact ke4.out) | (with_reducible exact ke5.out) | (with_reducible exact ke6.out)) (fun hHeld2 => ?_)
    clear hK K hHeld
    have hHeld := hHeld2
    clear hHeld2
    try simp only [Act.put, List.setIfInBounds_toArray, List.set_cons_zero, List.set_cons_succ]
    refine wpAnyH_ready (rs := [18]) (by kernel_rfl) (by simp) ?_
    refine AllReadyH.cons (o := _) rfl (fun K hK => ?_) AllReadyH.nil
    go_simp
    refine hK.out _ _ (by first | (with_reducible exact ke3.out) | (with_reducible exact ke4.out) | (with_reducible exact ke5.out) | (with_reducible exact ke6.out)) (fun hHeld2 => ?_)
    clear hK K hHeld
    have hHeld := hHeld2
    clear hHeld2
    try simp only [Act.put, List.setIfInBounds_toArray, List.set_cons_zero, List.set_cons_succ]
    refine wpAnyH_takeD (i := 19) (d := 13) (oi := _) (v := .int .i64 r.2.1) rfl (by rfl) (by kernel_rfl) (by kernel_rfl) (by kernel_rfl) (fun _ _ _ h => h) (Or.inl ⟨by rfl, ?_⟩) (by assumption) ?_
    · (intro w' hSw; (try dsimp only at hSw); go_simp)
    try simp only [Act.put, List.setIfInBounds_toArray, List.set_cons_zero, List.set_cons_succ]
    refine wpAnyH_takeD (i := 20) (d := 14) (oi := _) (v := .int .i64 r.2.2) rfl (by rfl) (by kernel_rfl) (by kernel_rfl) (by kernel_rfl) (fun _ _ _ h => h) (Or.inl ⟨by rfl, ?_⟩) (by assumption) ?_
    · (intro w' hSw; (try dsimp only at hSw); go_simp)
    try simp only [Act.put, List.setIfInBounds_toArray, List.set_cons_zero, List.set_cons_succ]
    refine wpAnyH_done (by kernel_rfl) ?_ _
    refine NoPanic.normal ?_
    exact ⟨rfl, w4.heap.size, ra, rc, _, _, _, _, _, _, _, _, _, _, _, _, _, _, _, _, _, rfl, Go.heap_alloc_new w4 _, HB4.out.size, bel0 _ HB4.out, HRg4.out, HCl4.out.keep (bel0 _ (Below.refl _ _))⟩
  · go_simp
    refine hK.out _ _ (by first | (with_reducible exact kd1.out) | (with_reducible exact kd2.out) | (with_reducible exact kd3.out)) (fun hHeld2 => ?_)
    clear hK K hHeld
    have hHeld := hHeld2
    clear hHeld2
    try simp only [Act.put, List.setIfInBounds_toArray, List.set_cons_zero, List.set_cons_succ]
    refine wpAnyH_ready (rs := [12]) (by kernel_rfl) (by simp) ?_
    refine AllReadyH.cons (o := _) rfl (fun K hK => ?_) AllReadyH.nil
    go_simp
    go_at_call 61
    refine (HIc.out _ ?hw).mono ?_
    (case hw => (first | (with_reducible exact kb0.out) | (with_reducible exact kb1.out) | (with_reducible exact kb2.out)))
    rintro e' w4 ⟨⟨vv, rfl, ra, rc, rfl, hcrg, hcl⟩, hb4⟩
    rw [ctX_arrO]
    have HRg4 := Lib.hid hcrg
    have hX4 : w4.heap[wr.heap.size]? = some (.cells #[.int .i64 0, .string ⟨#[]⟩, .int .i64 0, .int .i64 0, .string ⟨#[]⟩, .int .i64 0, .int .i64 0, .slice none 0 0] 56 (0, 0)) := (by with_reducible exact alloc_drew_block hb4); have HX4 := Lib.hid hX4; have HB4 := Lib.hid (show Below wr.heap.size wr w4 by with_reducible exact alloc_drew_below hb4); have HCl4 := Lib.hid (show CL w4 (fun b => wr.heap.size + 1 ≤ b) ra r.1.parts by with_reducible exact alloc_drew_cl hcl); obtain ⟨y0, y1, y2, y3, y4, y5, y6, y7, z0, z1, z2, z3, z4, z5, z6, z7, c7⟩ := z8 hX4; have ke1 := Lib.hid (HKp.out w4 HB4.out); have ke2 := Lib.hid (HKp.out w4.drew HB4.out.drew); have kf1 := Lib.hid (HKp.out _ (st8_below (Nat.le_refl _) HB4.out (.int .i64 r.1.kind) (.string r.1.op) (.int .i64 r.1.vk) (.int .i64 r.1.vn) (.string r.1.vs) (.int .i64 r.1.src) (.int .i64 r.1.col) (.slice ra r.1.parts.length rc))); have kf2 := Lib.hid (HKp.out _ (st8_below (Nat.le_refl _) HB4.out (.int .i64 r.1.kind) (.string r.1.op) (.int .i64 r.1.vk) (.int .i64 r.1.vn) (.string r.1.vs) (.int .i64 r.1.src) (.int .i64 r.1.col) (.slice ra r.1.parts.length rc)).drew); clear hX4 hb4 hcrg hcl
    refine hK.out _ _ (by first | (with_reducible exact ke1.out) | (with_reducible exact ke2.out)) (fun hHeld2 => ?_)
    clear hK K hHeld
    have hHeld := hHeld2
    clear hHeld2
    try simp only [Act.put, List.setIfInBounds_toArray, List.set_cons_zero, List.set_cons_succ]
    refine wpAnyH_take (i := 13) (oi := _) (v := .tuple #[.agg #[.int .i64 r.1.kind, .string r.1.op, .int .i64 r.1.vk, .int .i64 r.1.vn, .string r.1.vs, .int .i64 r.1.src, .int .i64 r.1.col, .slice ra r.1.parts.length rc], .int .i64 r.2.1, .int .i64 r.2.2]) rfl (by kernel_rfl) (by kernel_rfl) (by kernel_rfl) (fun _ _ _ h => h) (Or.inl ⟨by rfl, ?_⟩) (by assumption) ?_
    · (intro w' hSw; (try dsimp only at hSw); go_simp)
    try simp only [Act.put, List.setIfInBounds_toArray, List.set_cons_zero, List.set_cons_succ]
    refine wpAnyH_take (i := 14) (oi := _) (v := .agg #[.int .i64 r.1.kind, .string r.1.op, .int .i64 r.1.vk, .int .i64 r.1.vn, .string r.1.vs, .int .i64 r.1.src, .int .i64 r.1.col, .slice ra r.1.parts.length rc]) rfl (by kernel_rfl) (by kernel_rfl) (by kernel_rfl) (fun _ _ _ h => h) (Or.inl ⟨by rfl, ?_⟩) (by assumption) ?_
    · (intro w' hSw; (try dsimp only at hSw); go_simp)
    try simp only [Act.put, List.setIfInBounds_toArray, List.set_cons_zero, List.set_cons_succ]
    refine wpAnyH_take (i := 15) (oi := _) (v := .int .i64 r.2.1) rfl (by kernel_rfl) (by kernel_rfl) (by kernel_rfl) (fun _ _ _ h => h) (Or.inl ⟨by rfl, ?_⟩) (by assumption) ?_
    · (intro w' hSw; (try dsimp only at hSw); go_simp)
    try simp only [Act.put, List.setIfInBounds_toArray, List.set_cons_zero, List.set_cons_succ]
    refine wpAnyH_take (i := 16) (oi := _) (v := .int .i64 r.2.2) rfl (by kernel_rfl) (by kernel_rfl) (by kernel_rfl) (fun _ _ _ h => h) (Or.inl ⟨by rfl, ?_⟩) (by assumption) ?_
    · (intro w' hSw; (try dsimp only at hSw); go_simp)
    try simp only [Act.put, List.setIfInBounds_toArray, List.set_cons_zero, List.set_cons_succ]
    refine wpAnyH_ready (rs := [18]) (by kernel_rfl) (by simp) ?_
    refine AllReadyH.cons (o := _) rfl (fun K hK => ?_) AllReadyH.nil
    go_simp
    refine hK.out _ _ (by first | (with_reducible exact kf1.out) | (with_reducible exact kf2.out)) (fun hHeld2 => ?_)
    clear hK K hHeld
    have hHeld := hHeld2
    clear hHeld2
    try simp only [Act.put, List.setIfInBounds_toArray, List.set_cons_zero, List.set_cons_succ]
    refine wpAnyH_takeD (i := 19) (d := 13) (oi := _) (v := .int .i64 r.2.1) rfl (by rfl) (by kernel_rfl) (by kernel_rfl) (by kernel_rfl) (fun _ _ _ h => h) (Or.inl ⟨by rfl, ?_⟩) (by assumption) ?_
    · (intro w' hSw; (try dsimp only at hSw); go_simp)
    try simp only [Act.put, List.setIfInBounds_toArray, List.set_cons_zero, List.set_cons_succ]
    refine wpAnyH_takeD (i := 20) (d := 14) (oi := _) (v := .int .i64 r.2.2) rfl (by rfl) (by kernel_rfl) (by kernel_rfl) (by kernel_rfl) (fun _ _ _ h => h) (Or.inl ⟨by rfl, ?_⟩) (by assumption) ?_
    · (intro w' hSw; (try dsimp only at hSw); go_simp)
    try simp only [Act.put, List.setIfInBounds_toArray, List.set_cons_zero, List.set_cons_succ]
    refine wpAnyH_done (by kernel_rfl) ?_ _
    refine NoPanic.normal ?_
    exact ⟨rfl, wr.heap.size, ra, rc, _, _, _, _, _, _, _, _, _, _, _, _, _, _, _, _, _, rfl, box8 HX4.out (.int .i64 r.1.kind) (.string r.1.op) (.int .i64 r.1.vk) (.int .i64 r.1.vn) (.string r.1.vs) (.int .i64 r.1.src) (.int .i64 r.1.col) (.slice ra r.1.parts.length rc), Nat.le_refl _, st8_below (Nat.le_refl _) HB4.out (.int .i64 r.1.kind) (.string r.1.op) (.int .i64 r.1.vk) (.int .i64 r.1.vn) (.string r.1.vs) (.int .i64 r.1.src) (.int .i64 r.1.col) (.slice ra r.1.parts.length rc), HRg4.out, (cl_set8 (Nat.lt_succ_self _) HCl4.out (.int .i64 r.1.kind) (.string r.1.op) (.int .i64 r.1.vk) (.int .i64 r.1.vn) (.string r.1.vs) (.int .i64 r.1.src) (.int .i64 r.1.col) (.slice ra r.1.parts.length rc)).mono (fun b hb _ => Nat.le_of_succ_le hb)⟩
end Go.Proofs.Ytafhgilikcablaa
