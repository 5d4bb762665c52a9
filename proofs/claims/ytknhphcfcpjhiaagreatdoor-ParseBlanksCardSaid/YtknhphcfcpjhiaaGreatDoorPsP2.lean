/- The package's reader of statements: an assignment, an order, a source, a column. Written by genps.py. -/
import Derived.Test.YtknhphcfcpjhiaaGreatDoorPsP1
namespace Go.Proofs.YtknhphcfcpjhiaaGreatDoor
open Go.RowKit
set_option linter.unusedVariables false
set_option linter.unusedSimpArgs false
set_option maxRecDepth 100000
theorem eB_le : (⟨#[]⟩ : ByteArray).size ≤ maxLen := by unfold maxLen; decide
theorem results_as {fn : Func} {p : Tmp} (h : fn.results = #[.cell p 85]) (tmps : Array Value) (w : World) (g : Nat) (x0 x1 x2 x3 x4 x5 x6 x7 x8 : Value)
    (hp : tmps.getD p undef = .pointer (some ⟨g, 0, none⟩)) (hg : w.heap[g]? = some (.cells #[x0, x1, x2, x3, x4, x5, x6, x7, x8] 85 (0, 0))) :
    (results fn tmps).run Tryz.prog w = .ok (.agg #[x0, x1, x2, x3, x4, x5, x6, x7, x8]) w := by
  have hp' : tmps[p]?.getD undef = .pointer (some ⟨g, 0, none⟩) := by simpa using hp
  have hl := run_loadVar_row (P := Tryz.prog) w g 85 85 #[x0, x1, x2, x3, x4, x5, x6, x7, x8] (0, 0) _ hg Tryz.underlying85 rfl (by
    have : (Tryz.prog.info? 85).map (·.size) = some 9 := by kernel_rfl
    exact this)
  simp [results, h, hp', asAddr, hl]
theorem rowc_as {w : World} {N : Nat} {x0 x1 x2 x3 x4 x5 x6 x7 x8 : Value} {T : TypeId} (h : w.heap[N]? = some (.cells #[x0, x1, x2, x3, x4, x5, x6, x7, x8] T (0, 0))) :
    w.cell? ⟨N, 0, none⟩ = some x0 ∧ w.cell? ⟨N, 1, none⟩ = some x1 ∧ w.cell? ⟨N, 2, none⟩ = some x2 ∧ w.cell? ⟨N, 3, none⟩ = some x3 ∧ w.cell? ⟨N, 4, none⟩ = some x4 ∧ w.cell? ⟨N, 5, none⟩ = some x5 ∧ w.cell? ⟨N, 6, none⟩ = some x6 ∧ w.cell? ⟨N, 7, none⟩ = some x7 ∧ w.cell? ⟨N, 8, none⟩ = some x8 ∧ (∀ j, w.frozen? ⟨N, j, none⟩ = false) ∧ N < w.heap.size :=
  ⟨cell_of_row _ _ 0 _ _ _ h, cell_of_row _ _ 1 _ _ _ h, cell_of_row _ _ 2 _ _ _ h, cell_of_row _ _ 3 _ _ _ h, cell_of_row _ _ 4 _ _ _ h, cell_of_row _ _ 5 _ _ _ h, cell_of_row _ _ 6 _ _ _ h, cell_of_row _ _ 7 _ _ _ h, cell_of_row _ _ 8 _ _ _ h, fun j => frozen_of_row _ _ j _ _ h, (Array.getElem?_eq_some_iff.1 h).1⟩
theorem wbox_as {w : World} {N : Nat} {x0 x1 x2 x3 x4 x5 x6 x7 x8 : Value} {T : TypeId} (h : w.heap[N]? = some (.cells #[x0, x1, x2, x3, x4, x5, x6, x7, x8] T (0, 0))) (a0 a1 a2 a3 a4 a5 a6 a7 a8 : Value) :
    (setLe w N 0 [a0, a1, a2, a3, a4, a5, a6, a7, a8]).heap[N]? = some (.cells #[a0, a1, a2, a3, a4, a5, a6, a7, a8] T (0, 0)) :=
  heap_setLe [a0, a1, a2, a3, a4, a5, a6, a7, a8] [] [x0, x1, x2, x3, x4, x5, x6, x7, x8] w (by simp) h
set_option maxHeartbeats 6400000 in
theorem passign_any (N : Nat) (w : World) (b off : Nat) (wn wc : Nat) (ws : List Wd) (s0 : PS) (h : RdS N w (some ⟨b, off, none⟩) wn wc ws s0) (hr : RCx b off wn wc ws) :
    Calls Tryz.prog 58 #[.pointer (some ⟨N, 0, none⟩)] w (PsV (AgV asS) N w (some ⟨b, off, none⟩) wn wc ws (assignR ws s0)) := by
  have HRc := Lib.hid hr
  have HN := Lib.hid h.low
  have HIt := Lib.hid (show assignR ws s0 = (⟨(nameR ws s0).1, (exprR ws (mustG ws [61] (nameR ws s0).2)).1⟩, (exprR ws (mustG ws [61] (nameR ws s0).2)).2) from rfl)
  have HB := Lib.hid (bel0 (.cells #[.string ⟨#[]⟩, .int .i64 0, .string ⟨#[]⟩, .int .i64 0, .int .i64 0, .string ⟨#[]⟩, .string ⟨#[]⟩, .string ⟨#[]⟩, .slice none 0 0] 85) (Below.refl w.heap.size w))
  have HX1 := Lib.hid (Go.heap_alloc_new w (.cells #[.string ⟨#[]⟩, .int .i64 0, .string ⟨#[]⟩, .int .i64 0, .int .i64 0, .string ⟨#[]⟩, .string ⟨#[]⟩, .string ⟨#[]⟩, .slice none 0 0] 85 (0, 0)))
  have HS1 := Lib.hid (h.below HB.out)
  have HT1 := Lib.hid (RTo.of_below (N := N) HB.out (Nat.le_of_lt h.low))
  have HW1 := Lib.hid (show w.heap.size < (w.alloc (.cells #[.string ⟨#[]⟩, .int .i64 0, .string ⟨#[]⟩, .int .i64 0, .int .i64 0, .string ⟨#[]⟩, .string ⟨#[]⟩, .string ⟨#[]⟩, .slice none 0 0] 85)).heap.size from (Array.getElem?_eq_some_iff.1 HX1.out).1)
  clear h hr
  go_enter Tryz.func58, Tryz.ntmps58
  go_upto_region 1 with (fail)
  generalize w.alloc (.cells #[.string ⟨#[]⟩, .int .i64 0, .string ⟨#[]⟩, .int .i64 0, .int .i64 0, .string ⟨#[]⟩, .string ⟨#[]⟩, .string ⟨#[]⟩, .slice none 0 0] 85) = w1 at *
  have HL1 := Lib.hid (Nat.le_refl w1.heap.size)
  have HNs := Lib.hid (nameR_le ws s0)
  have HNm := Lib.hid (pname_any2 N w1 _ wn wc ws s0 HS1.out HRc.out.z)
  obtain ⟨q, hq⟩ : ∃ q, q = nameR ws s0 := ⟨_, rfl⟩
  rw [← hq] at HIt HNm HNs
  clear hq
  obtain ⟨nm, s1⟩ := q
  dsimp only at HIt HNm HNs
  have HNsnm := Lib.hid HNs.out
  go_wp2_with fail
  refine HNm.out.mono ?_
  rintro e w2 ⟨rfl, h1, h2⟩
  have HS2 := Lib.hid h1
  have HT2 := Lib.hid (HT1.out.trans h2)
  have HX2 := Lib.hid ((h2.block _ (Array.getElem?_eq_some_iff.1 HX1.out).1 (by have := HN.out; omega)).trans HX1.out)
  have HL2 := Lib.hid (Nat.le_trans HL1.out h2.size)
  clear h1 h2
  go_upto_region 2 with (fail)
  have HBa := Lib.hid (bel0 (.cells #[.string nm, .int .i64 0, .string ⟨#[]⟩, .int .i64 0, .int .i64 0, .string ⟨#[]⟩, .string ⟨#[]⟩, .string ⟨#[]⟩, .slice none 0 0] 85) (Below.refl w2.heap.size w2))
  have HY3 := Lib.hid (Go.heap_alloc_new w2 (.cells #[.string nm, .int .i64 0, .string ⟨#[]⟩, .int .i64 0, .int .i64 0, .string ⟨#[]⟩, .string ⟨#[]⟩, .string ⟨#[]⟩, .slice none 0 0] 85 (0, 0)))
  have HS3 := Lib.hid (HS2.out.below HBa.out)
  have HT3 := Lib.hid (HT2.out.trans (RTo.of_below HBa.out (Nat.le_of_lt HS2.out.low)))
  have HX3 := Lib.hid ((HBa.out.block _ (Array.getElem?_eq_some_iff.1 HX2.out).1).trans HX2.out)
  have HW2 := Lib.hid (show w.heap.size < w2.heap.size from (Array.getElem?_eq_some_iff.1 HX2.out).1)
  have HN2 := Lib.hid (show N < w2.heap.size from HS2.out.low)
  have HL3 := Lib.hid (Nat.le_trans HL2.out HBa.out.size)
  generalize w2.alloc (.cells #[.string nm, .int .i64 0, .string ⟨#[]⟩, .int .i64 0, .int .i64 0, .string ⟨#[]⟩, .string ⟨#[]⟩, .string ⟨#[]⟩, .slice none 0 0] 85) = w3 at *
  have HMs := Lib.hid (mustSign_any [61] N w3 _ wn wc ws s1 HS3.out)
  obtain ⟨s2, hsm⟩ : ∃ q, q = mustG ws [61] s1 := ⟨_, rfl⟩
  rw [← hsm] at HMs HIt
  clear hsm
  rw [show bs [61] = ⟨#[61]⟩ from rfl] at HMs
  go_wp2_with fail
  refine HMs.out.mono ?_
  rintro e w4 ⟨rfl, h1, h2⟩
  have HS4 := Lib.hid h1
  have HT4 := Lib.hid (HT3.out.trans h2)
  have HX4 := Lib.hid ((h2.block _ (Array.getElem?_eq_some_iff.1 HX3.out).1 (by have := HN.out; omega)).trans HX3.out)
  have HY4 := Lib.hid ((h2.block _ (Array.getElem?_eq_some_iff.1 HY3.out).1 (by have := HN2.out; omega)).trans HY3.out)
  have HL4 := Lib.hid (Nat.le_trans HL3.out h2.size)
  clear h1 h2
  go_wp2_with fail
  refine (pexpr_any N w4 b off wn wc ws s2 HS4.out HRc.out.z HRc.out.cap).mono ?_
  rintro e w5 ⟨⟨v, rfl, sa, sc, rfl, hrg, hel⟩, h1, h2⟩
  rw [etX_arr]
  obtain ⟨q, hq⟩ : ∃ q, q = exprR ws s2 := ⟨_, rfl⟩
  rw [← hq] at hrg hel h1 HIt ⊢
  clear hq
  obtain ⟨E, s3⟩ := q
  dsimp only at hrg hel h1 HIt ⊢
  have HRg := Lib.hid hrg
  have hsz4 := h2.size
  have HEl := Lib.hid hel
  have HS5 := Lib.hid h1
  have HT5 := Lib.hid (HT4.out.trans h2)
  have HX5 := Lib.hid ((h2.block _ (Array.getElem?_eq_some_iff.1 HX4.out).1 (by have := HN.out; omega)).trans HX4.out)
  have HY5 := Lib.hid ((h2.block _ (Array.getElem?_eq_some_iff.1 HY4.out).1 (by have := HN2.out; omega)).trans HY4.out)
  have HL5 := Lib.hid (Nat.le_trans HL4.out h2.size)
  have HZ := Lib.hid HT4.out.size
  clear hrg hel h1 h2 hsz4
  have HE5 := Lib.hid (HEl.out.mono (Q' := fun b => w1.heap.size ≤ b ∧ b ≠ w2.heap.size) (fun b hb _ => ⟨by have := HL4.out; omega, by have := (Array.getElem?_eq_some_iff.1 HY4.out).1; omega⟩))
  have HS6 := Lib.hid (HS5.out.setLe (R := w2.heap.size) HN2.out 1 [.int .i64 E.kind, .string E.op, .int .i64 E.vk, .int .i64 E.vn, .string E.vs, .string E.tab, .string E.col, .slice sa E.parts.length sc])
  have HT6 := Lib.hid (HT5.out.setLe (R := w2.heap.size) (Nat.le_of_lt HN2.out) (Nat.le_of_lt HW2.out) 1 [.int .i64 E.kind, .string E.op, .int .i64 E.vk, .int .i64 E.vn, .string E.vs, .string E.tab, .string E.col, .slice sa E.parts.length sc])
  have HX6 := Lib.hid ((setLe_other (B := w2.heap.size) (M := w.heap.size) (by have := HW2.out; omega) [.int .i64 E.kind, .string E.op, .int .i64 E.vk, .int .i64 E.vn, .string E.vs, .string E.tab, .string E.col, .slice sa E.parts.length sc] 1 w5).trans HX5.out)
  have HY6 := Lib.hid (show (setLe w5 w2.heap.size 1 [.int .i64 E.kind, .string E.op, .int .i64 E.vk, .int .i64 E.vn, .string E.vs, .string E.tab, .string E.col, .slice sa E.parts.length sc]).heap[w2.heap.size]? = some (.cells #[.string nm, .int .i64 E.kind, .string E.op, .int .i64 E.vk, .int .i64 E.vn, .string E.vs, .string E.tab, .string E.col, .slice sa E.parts.length sc] 85 (0, 0)) from heap_setLe [.int .i64 E.kind, .string E.op, .int .i64 E.vk, .int .i64 E.vn, .string E.vs, .string E.tab, .string E.col, .slice sa E.parts.length sc] [.string nm] [.int .i64 0, .string ⟨#[]⟩, .int .i64 0, .int .i64 0, .string ⟨#[]⟩, .string ⟨#[]⟩, .string ⟨#[]⟩, .slice none 0 0] w5 (by simp) HY5.out)
  have HE6 := Lib.hid (el_store HE5.out (R := w2.heap.size) (fun b hb => hb.2) 1 [.int .i64 E.kind, .string E.op, .int .i64 E.vk, .int .i64 E.vn, .string E.vs, .string E.tab, .string E.col, .slice sa E.parts.length sc])
  have HL6 := Lib.hid (show w1.heap.size ≤ (setLe w5 w2.heap.size 1 [.int .i64 E.kind, .string E.op, .int .i64 E.vk, .int .i64 E.vn, .string E.vs, .string E.tab, .string E.col, .slice sa E.parts.length sc]).heap.size by rw [setLe_size]; exact HL5.out)
  obtain ⟨l0, l1, l2, l3, l4, l5, l6, l7, l8, lz, lN⟩ := rowc_as HY5.out
  go_upto_region 4 with (fail)
  generalize hwa : setLe w5 w2.heap.size 1 [.int .i64 E.kind, .string E.op, .int .i64 E.vk, .int .i64 E.vn, .string E.vs, .string E.tab, .string E.col, .slice sa E.parts.length sc] = w6 at *
  have hwb : ((((((((w5.setCell ⟨w2.heap.size, 1, none⟩ (.int .i64 E.kind)).setCell ⟨w2.heap.size, 2, none⟩ (.string E.op)).setCell ⟨w2.heap.size, 3, none⟩ (.int .i64 E.vk)).setCell ⟨w2.heap.size, 4, none⟩ (.int .i64 E.vn)).setCell ⟨w2.heap.size, 5, none⟩ (.string E.vs)).setCell ⟨w2.heap.size, 6, none⟩ (.string E.tab)).setCell ⟨w2.heap.size, 7, none⟩ (.string E.col)).setCell ⟨w2.heap.size, 8, none⟩ (.slice sa E.parts.length sc)) = w6 := hwa
  rw [hwb]
  clear hwa hwb l0 l1 l2 l3 l4 l5 l6 l7 l8 lz lN
  have HR := Lib.hid (show assignR ws s0 = (⟨nm, E⟩, s3) from HIt.out)
  obtain ⟨l0, l1, l2, l3, l4, l5, l6, l7, l8, lz, lN⟩ := rowc_as HY6.out
  obtain ⟨g0, g1, g2, g3, g4, g5, g6, g7, g8, gz, gN⟩ := rowc_as HX6.out
  have HFin := Lib.hid (wbox_as HX6.out (.string nm) (.int .i64 E.kind) (.string E.op) (.int .i64 E.vk) (.int .i64 E.vn) (.string E.vs) (.string E.tab) (.string E.col) (.slice sa E.parts.length sc))
  have HF1 := Lib.hid (HS6.out.setLe (R := w.heap.size) HN.out 0 [.string nm, .int .i64 E.kind, .string E.op, .int .i64 E.vk, .int .i64 E.vn, .string E.vs, .string E.tab, .string E.col, .slice sa E.parts.length sc])
  have HF2 := Lib.hid (HT6.out.setLe (R := w.heap.size) (Nat.le_of_lt HN.out) (Nat.le_refl _) 0 [.string nm, .int .i64 E.kind, .string E.op, .int .i64 E.vk, .int .i64 E.vn, .string E.vs, .string E.tab, .string E.col, .slice sa E.parts.length sc])
  have HF3 := Lib.hid ((el_store HE6.out (R := w.heap.size) (fun b hb => by have := HW1.out; omega) 0 [.string nm, .int .i64 E.kind, .string E.op, .int .i64 E.vk, .int .i64 E.vn, .string E.vs, .string E.tab, .string E.col, .slice sa E.parts.length sc]).mono (Q' := fun b => w.heap.size ≤ b) (fun b hb _ => by have := HW1.out; omega))
  go_wp2
  refine bodyPost_ret (results_as rfl _ _ w.heap.size _ _ _ _ _ _ _ _ _ rfl HFin.out) rfl ?_
  rw [HR.out]
  exact ⟨⟨_, rfl, _, rfl, sa, sc, rfl, HRg.out, HF3.out, HNsnm.out⟩, HF1.out, HF2.out⟩
theorem results_od {fn : Func} {p : Tmp} (h : fn.results = #[.cell p 131]) (tmps : Array Value) (w : World) (g : Nat) (x0 x1 x2 x3 x4 x5 x6 x7 x8 : Value)
    (hp : tmps.getD p undef = .pointer (some ⟨g, 0, none⟩)) (hg : w.heap[g]? = some (.cells #[x0, x1, x2, x3, x4, x5, x6, x7, x8] 131 (0, 0))) :
    (results fn tmps).run Tryz.prog w = .ok (.agg #[x0, x1, x2, x3, x4, x5, x6, x7, x8]) w := by
  have hp' : tmps[p]?.getD undef = .pointer (some ⟨g, 0, none⟩) := by simpa using hp
  have hl := run_loadVar_row (P := Tryz.prog) w g 131 131 #[x0, x1, x2, x3, x4, x5, x6, x7, x8] (0, 0) _ hg Tryz.underlying131 rfl (by
    have : (Tryz.prog.info? 131).map (·.size) = some 9 := by kernel_rfl
    exact this)
  simp [results, h, hp', asAddr, hl]
theorem rowc_od {w : World} {N : Nat} {x0 x1 x2 x3 x4 x5 x6 x7 x8 : Value} {T : TypeId} (h : w.heap[N]? = some (.cells #[x0, x1, x2, x3, x4, x5, x6, x7, x8] T (0, 0))) :
    w.cell? ⟨N, 0, none⟩ = some x0 ∧ w.cell? ⟨N, 1, none⟩ = some x1 ∧ w.cell? ⟨N, 2, none⟩ = some x2 ∧ w.cell? ⟨N, 3, none⟩ = some x3 ∧ w.cell? ⟨N, 4, none⟩ = some x4 ∧ w.cell? ⟨N, 5, none⟩ = some x5 ∧ w.cell? ⟨N, 6, none⟩ = some x6 ∧ w.cell? ⟨N, 7, none⟩ = some x7 ∧ w.cell? ⟨N, 8, none⟩ = some x8 ∧ (∀ j, w.frozen? ⟨N, j, none⟩ = false) ∧ N < w.heap.size :=
  ⟨cell_of_row _ _ 0 _ _ _ h, cell_of_row _ _ 1 _ _ _ h, cell_of_row _ _ 2 _ _ _ h, cell_of_row _ _ 3 _ _ _ h, cell_of_row _ _ 4 _ _ _ h, cell_of_row _ _ 5 _ _ _ h, cell_of_row _ _ 6 _ _ _ h, cell_of_row _ _ 7 _ _ _ h, cell_of_row _ _ 8 _ _ _ h, fun j => frozen_of_row _ _ j _ _ h, (Array.getElem?_eq_some_iff.1 h).1⟩
theorem wbox_od {w : World} {N : Nat} {x0 x1 x2 x3 x4 x5 x6 x7 x8 : Value} {T : TypeId} (h : w.heap[N]? = some (.cells #[x0, x1, x2, x3, x4, x5, x6, x7, x8] T (0, 0))) (a0 a1 a2 a3 a4 a5 a6 a7 a8 : Value) :
    (setLe w N 0 [a0, a1, a2, a3, a4, a5, a6, a7, a8]).heap[N]? = some (.cells #[a0, a1, a2, a3, a4, a5, a6, a7, a8] T (0, 0)) :=
  heap_setLe [a0, a1, a2, a3, a4, a5, a6, a7, a8] [] [x0, x1, x2, x3, x4, x5, x6, x7, x8] w (by simp) h
set_option maxHeartbeats 6400000 in
theorem porder_any (N : Nat) (w : World) (b off : Nat) (wn wc : Nat) (ws : List Wd) (s0 : PS) (h : RdS N w (some ⟨b, off, none⟩) wn wc ws s0) (hr : RCx b off wn wc ws) :
    Calls Tryz.prog 111 #[.pointer (some ⟨N, 0, none⟩)] w (PsV (AgV odS) N w (some ⟨b, off, none⟩) wn wc ws (orderR ws s0)) := by
  have HRc := Lib.hid hr
  have HN := Lib.hid h.low
  have HIt := Lib.hid (show orderR ws s0 = (if (takeR ws 1 kDESC (exprR ws s0).2).1 = true then (⟨(exprR ws s0).1, true⟩, (takeR ws 1 kDESC (exprR ws s0).2).2) else (⟨(exprR ws s0).1, false⟩, (takeR ws 1 kASC (takeR ws 1 kDESC (exprR ws s0).2).2).2)) from rfl)
  have HB := Lib.hid (bel0 (.cells #[.int .i64 0, .string ⟨#[]⟩, .int .i64 0, .int .i64 0, .string ⟨#[]⟩, .string ⟨#[]⟩, .string ⟨#[]⟩, .slice none 0 0, .bool false] 131) (Below.refl w.heap.size w))
  have HX1 := Lib.hid (Go.heap_alloc_new w (.cells #[.int .i64 0, .string ⟨#[]⟩, .int .i64 0, .int .i64 0, .string ⟨#[]⟩, .string ⟨#[]⟩, .string ⟨#[]⟩, .slice none 0 0, .bool false] 131 (0, 0)))
  have HS1 := Lib.hid (h.below HB.out)
  have HT1 := Lib.hid (RTo.of_below (N := N) HB.out (Nat.le_of_lt h.low))
  have HW1 := Lib.hid (show w.heap.size < (w.alloc (.cells #[.int .i64 0, .string ⟨#[]⟩, .int .i64 0, .int .i64 0, .string ⟨#[]⟩, .string ⟨#[]⟩, .string ⟨#[]⟩, .slice none 0 0, .bool false] 131)).heap.size from (Array.getElem?_eq_some_iff.1 HX1.out).1)
  clear h hr
  go_enter Tryz.func111, Tryz.ntmps111
  go_upto_region 1 with (fail)
  generalize w.alloc (.cells #[.int .i64 0, .string ⟨#[]⟩, .int .i64 0, .int .i64 0, .string ⟨#[]⟩, .string ⟨#[]⟩, .string ⟨#[]⟩, .slice none 0 0, .bool false] 131) = w1 at *
  have HL1 := Lib.hid (Nat.le_refl w1.heap.size)
  go_wp2_with fail
  refine (pexpr_any N w1 b off wn wc ws s0 HS1.out HRc.out.z HRc.out.cap).mono ?_
  rintro e w2 ⟨⟨v, rfl, sa, sc, rfl, hrg, hel⟩, h1, h2⟩
  rw [etX_arr]
  obtain ⟨q, hq⟩ : ∃ q, q = exprR ws s0 := ⟨_, rfl⟩
  rw [← hq] at hrg hel h1 HIt ⊢
  clear hq
  obtain ⟨E, s1⟩ := q
  dsimp only at hrg hel h1 HIt ⊢
  have HRg := Lib.hid hrg
  have hsz1 := h2.size
  have HEl := Lib.hid hel
  have HS2 := Lib.hid h1
  have HT2 := Lib.hid (HT1.out.trans h2)
  have HX2 := Lib.hid ((h2.block _ (Array.getElem?_eq_some_iff.1 HX1.out).1 (by have := HN.out; omega)).trans HX1.out)
  have HL2 := Lib.hid (Nat.le_trans HL1.out h2.size)
  have HZ := Lib.hid HT1.out.size
  clear hrg hel h1 h2 hsz1
  have HE2 := Lib.hid (HEl.out.mono (Q' := fun b => w1.heap.size ≤ b) (fun b hb _ => by have := HL1.out; omega))
  have HKw := Lib.hid (pkeyword_any kDESC N w2 _ wn wc ws s1 HS2.out)
  obtain ⟨r, hrr⟩ : ∃ r, r = takeR ws 1 kDESC s1 := ⟨_, rfl⟩
  rw [← hrr] at HKw HIt
  clear hrr
  obtain ⟨tb, s2⟩ := r
  dsimp only at HKw HIt
  rw [show bs kDESC = ⟨#[68, 69, 83, 67]⟩ from rfl] at HKw
  go_wp2_with fail
  refine HKw.out.mono ?_
  rintro e w3 ⟨rfl, h1, h2⟩
  have HS3 := Lib.hid h1
  have HT3 := Lib.hid (HT2.out.trans h2)
  have HX3 := Lib.hid ((h2.block _ (Array.getElem?_eq_some_iff.1 HX2.out).1 (by have := HN.out; omega)).trans HX2.out)
  have HE3 := Lib.hid (HE2.out.far h2.size (fun b hb hlt => h2.block b hlt (by have := HN.out; have := HW1.out; omega)))
  have HL3 := Lib.hid (Nat.le_trans HL2.out h2.size)
  clear h1 h2
  cases tb with
  | true =>
    go_upto_region 2 with (fail)
    have HBa := Lib.hid (bel0 (.cells #[.int .i64 E.kind, .string E.op, .int .i64 E.vk, .int .i64 E.vn, .string E.vs, .string E.tab, .string E.col, .slice sa E.parts.length sc, .bool true] 131) (Below.refl w3.heap.size w3))
    have HY4 := Lib.hid (Go.heap_alloc_new w3 (.cells #[.int .i64 E.kind, .string E.op, .int .i64 E.vk, .int .i64 E.vn, .string E.vs, .string E.tab, .string E.col, .slice sa E.parts.length sc, .bool true] 131 (0, 0)))
    have HS4 := Lib.hid (HS3.out.below HBa.out)
    have HT4 := Lib.hid (HT3.out.trans (RTo.of_below HBa.out (Nat.le_of_lt HS3.out.low)))
    have HX4 := Lib.hid ((HBa.out.block _ (Array.getElem?_eq_some_iff.1 HX3.out).1).trans HX3.out)
    have HW2 := Lib.hid (show w.heap.size < w3.heap.size from (Array.getElem?_eq_some_iff.1 HX3.out).1)
    have HN2 := Lib.hid (show N < w3.heap.size from HS3.out.low)
    have HE4 := Lib.hid ((HE3.out.mono (Q' := fun b => w1.heap.size ≤ b ∧ b ≠ w3.heap.size) (fun b hb hlt => ⟨hb, by omega⟩)).keep HBa.out)
    have HL4 := Lib.hid (Nat.le_trans HL3.out HBa.out.size)
    generalize w3.alloc (.cells #[.int .i64 E.kind, .string E.op, .int .i64 E.vk, .int .i64 E.vn, .string E.vs, .string E.tab, .string E.col, .slice sa E.parts.length sc, .bool true] 131) = w4 at *
    obtain ⟨l0, l1, l2, l3, l4, l5, l6, l7, l8, lz, lN⟩ := rowc_od HY4.out
    go_upto_region 4 with (fail)
    clear l0 l1 l2 l3 l4 l5 l6 l7 l8 lz lN
    have HR := Lib.hid (show orderR ws s0 = (⟨E, true⟩, s2) from HIt.out)
    obtain ⟨l0, l1, l2, l3, l4, l5, l6, l7, l8, lz, lN⟩ := rowc_od HY4.out
    obtain ⟨g0, g1, g2, g3, g4, g5, g6, g7, g8, gz, gN⟩ := rowc_od HX4.out
    have HFin := Lib.hid (wbox_od HX4.out (.int .i64 E.kind) (.string E.op) (.int .i64 E.vk) (.int .i64 E.vn) (.string E.vs) (.string E.tab) (.string E.col) (.slice sa E.parts.length sc) (.bool true))
    have HF1 := Lib.hid (HS4.out.setLe (R := w.heap.size) HN.out 0 [.int .i64 E.kind, .string E.op, .int .i64 E.vk, .int .i64 E.vn, .string E.vs, .string E.tab, .string E.col, .slice sa E.parts.length sc, .bool true])
    have HF2 := Lib.hid (HT4.out.setLe (R := w.heap.size) (Nat.le_of_lt HN.out) (Nat.le_refl _) 0 [.int .i64 E.kind, .string E.op, .int .i64 E.vk, .int .i64 E.vn, .string E.vs, .string E.tab, .string E.col, .slice sa E.parts.length sc, .bool true])
    have HF3 := Lib.hid ((el_store HE4.out (R := w.heap.size) (fun b hb => by have := HW1.out; omega) 0 [.int .i64 E.kind, .string E.op, .int .i64 E.vk, .int .i64 E.vn, .string E.vs, .string E.tab, .string E.col, .slice sa E.parts.length sc, .bool true]).mono (Q' := fun b => w.heap.size ≤ b) (fun b hb _ => by have := HW1.out; omega))
    go_wp2
    refine bodyPost_ret (results_od rfl _ _ w.heap.size _ _ _ _ _ _ _ _ _ rfl HFin.out) rfl ?_
    rw [HR.out]
    exact ⟨⟨_, rfl, _, rfl, sa, sc, rfl, HRg.out, HF3.out⟩, HF1.out, HF2.out⟩
  | false =>
    go_upto_region 2 with (fail)
    have HBa := Lib.hid (bel0 (.cells #[.int .i64 E.kind, .string E.op, .int .i64 E.vk, .int .i64 E.vn, .string E.vs, .string E.tab, .string E.col, .slice sa E.parts.length sc, .bool false] 131) (Below.refl w3.heap.size w3))
    have HY4 := Lib.hid (Go.heap_alloc_new w3 (.cells #[.int .i64 E.kind, .string E.op, .int .i64 E.vk, .int .i64 E.vn, .string E.vs, .string E.tab, .string E.col, .slice sa E.parts.length sc, .bool false] 131 (0, 0)))
    have HS4 := Lib.hid (HS3.out.below HBa.out)
    have HT4 := Lib.hid (HT3.out.trans (RTo.of_below HBa.out (Nat.le_of_lt HS3.out.low)))
    have HX4 := Lib.hid ((HBa.out.block _ (Array.getElem?_eq_some_iff.1 HX3.out).1).trans HX3.out)
    have HW2 := Lib.hid (show w.heap.size < w3.heap.size from (Array.getElem?_eq_some_iff.1 HX3.out).1)
    have HN2 := Lib.hid (show N < w3.heap.size from HS3.out.low)
    have HE4 := Lib.hid ((HE3.out.mono (Q' := fun b => w1.heap.size ≤ b ∧ b ≠ w3.heap.size) (fun b hb hlt => ⟨hb, by omega⟩)).keep HBa.out)
    have HL4 := Lib.hid (Nat.le_trans HL3.out HBa.out.size)
    generalize w3.alloc (.cells #[.int .i64 E.kind, .string E.op, .int .i64 E.vk, .int .i64 E.vn, .string E.vs, .string E.tab, .string E.col, .slice sa E.parts.length sc, .bool false] 131) = w4 at *
    obtain ⟨l0, l1, l2, l3, l4, l5, l6, l7, l8, lz, lN⟩ := rowc_od HY4.out
    go_upto_region 3 with (fail)
    clear l0 l1 l2 l3 l4 l5 l6 l7 l8 lz lN
    replace HIt := Lib.hid (show orderR ws s0 = (⟨E, false⟩, (takeR ws 1 kASC s2).2) from HIt.out)
    have HKw := Lib.hid (pkeyword_any kASC N w4 _ wn wc ws s2 HS4.out)
    obtain ⟨r, hrr⟩ : ∃ r, r = takeR ws 1 kASC s2 := ⟨_, rfl⟩
    rw [← hrr] at HKw HIt
    clear hrr
    obtain ⟨tc, s3⟩ := r
    dsimp only at HKw HIt
    rw [show bs kASC = ⟨#[65, 83, 67]⟩ from rfl] at HKw
    go_wp2_with fail
    refine HKw.out.mono ?_
    rintro e w5 ⟨rfl, h1, h2⟩
    have HS5 := Lib.hid h1
    have HT5 := Lib.hid (HT4.out.trans h2)
    have HX5 := Lib.hid ((h2.block _ (Array.getElem?_eq_some_iff.1 HX4.out).1 (by have := HN.out; omega)).trans HX4.out)
    have HY5 := Lib.hid ((h2.block _ (Array.getElem?_eq_some_iff.1 HY4.out).1 (by have := HN2.out; omega)).trans HY4.out)
    have HE5 := Lib.hid (HE4.out.far h2.size (fun b hb hlt => h2.block b hlt (by have := HN.out; have := HW1.out; omega)))
    have HL5 := Lib.hid (Nat.le_trans HL4.out h2.size)
    clear h1 h2
    have HR := Lib.hid (show orderR ws s0 = (⟨E, false⟩, s3) from HIt.out)
    obtain ⟨l0, l1, l2, l3, l4, l5, l6, l7, l8, lz, lN⟩ := rowc_od HY5.out
    obtain ⟨g0, g1, g2, g3, g4, g5, g6, g7, g8, gz, gN⟩ := rowc_od HX5.out
    have HFin := Lib.hid (wbox_od HX5.out (.int .i64 E.kind) (.string E.op) (.int .i64 E.vk) (.int .i64 E.vn) (.string E.vs) (.string E.tab) (.string E.col) (.slice sa E.parts.length sc) (.bool false))
    have HF1 := Lib.hid (HS5.out.setLe (R := w.heap.size) HN.out 0 [.int .i64 E.kind, .string E.op, .int .i64 E.vk, .int .i64 E.vn, .string E.vs, .string E.tab, .string E.col, .slice sa E.parts.length sc, .bool false])
    have HF2 := Lib.hid (HT5.out.setLe (R := w.heap.size) (Nat.le_of_lt HN.out) (Nat.le_refl _) 0 [.int .i64 E.kind, .string E.op, .int .i64 E.vk, .int .i64 E.vn, .string E.vs, .string E.tab, .string E.col, .slice sa E.parts.length sc, .bool false])
    have HF3 := Lib.hid ((el_store HE5.out (R := w.heap.size) (fun b hb => by have := HW1.out; omega) 0 [.int .i64 E.kind, .string E.op, .int .i64 E.vk, .int .i64 E.vn, .string E.vs, .string E.tab, .string E.col, .slice sa E.parts.length sc, .bool false]).mono (Q' := fun b => w.heap.size ≤ b) (fun b hb _ => by have := HW1.out; omega))
    go_wp2
    refine bodyPost_ret (results_od rfl _ _ w.heap.size _ _ _ _ _ _ _ _ _ rfl HFin.out) rfl ?_
    rw [HR.out]
    exact ⟨⟨_, rfl, _, rfl, sa, sc, rfl, HRg.out, HF3.out⟩, HF1.out, HF2.out⟩
theorem results_so {fn : Func} {p : Tmp} (h : fn.results = #[.cell p 129]) (tmps : Array Value) (w : World) (g : Nat) (x0 x1 x2 x3 x4 x5 x6 x7 x8 x9 : Value)
    (hp : tmps.getD p undef = .pointer (some ⟨g, 0, none⟩)) (hg : w.heap[g]? = some (.cells #[x0, x1, x2, x3, x4, x5, x6, x7, x8, x9] 129 (0, 0))) :
    (results fn tmps).run Tryz.prog w = .ok (.agg #[x0, x1, x2, x3, x4, x5, x6, x7, x8, x9]) w := by
  have hp' : tmps[p]?.getD undef = .pointer (some ⟨g, 0, none⟩) := by simpa using hp
  have hl := run_loadVar_row (P := Tryz.prog) w g 129 129 #[x0, x1, x2, x3, x4, x5, x6, x7, x8, x9] (0, 0) _ hg Tryz.underlying129 rfl (by
    have : (Tryz.prog.info? 129).map (·.size) = some 10 := by kernel_rfl
    exact this)
  simp [results, h, hp', asAddr, hl]
theorem rowc_so {w : World} {N : Nat} {x0 x1 x2 x3 x4 x5 x6 x7 x8 x9 : Value} {T : TypeId} (h : w.heap[N]? = some (.cells #[x0, x1, x2, x3, x4, x5, x6, x7, x8, x9] T (0, 0))) :
    w.cell? ⟨N, 0, none⟩ = some x0 ∧ w.cell? ⟨N, 1, none⟩ = some x1 ∧ w.cell? ⟨N, 2, none⟩ = some x2 ∧ w.cell? ⟨N, 3, none⟩ = some x3 ∧ w.cell? ⟨N, 4, none⟩ = some x4 ∧ w.cell? ⟨N, 5, none⟩ = some x5 ∧ w.cell? ⟨N, 6, none⟩ = some x6 ∧ w.cell? ⟨N, 7, none⟩ = some x7 ∧ w.cell? ⟨N, 8, none⟩ = some x8 ∧ w.cell? ⟨N, 9, none⟩ = some x9 ∧ (∀ j, w.frozen? ⟨N, j, none⟩ = false) ∧ N < w.heap.size :=
  ⟨cell_of_row _ _ 0 _ _ _ h, cell_of_row _ _ 1 _ _ _ h, cell_of_row _ _ 2 _ _ _ h, cell_of_row _ _ 3 _ _ _ h, cell_of_row _ _ 4 _ _ _ h, cell_of_row _ _ 5 _ _ _ h, cell_of_row _ _ 6 _ _ _ h, cell_of_row _ _ 7 _ _ _ h, cell_of_row _ _ 8 _ _ _ h, cell_of_row _ _ 9 _ _ _ h, fun j => frozen_of_row _ _ j _ _ h, (Array.getElem?_eq_some_iff.1 h).1⟩
theorem wbox_so {w : World} {N : Nat} {x0 x1 x2 x3 x4 x5 x6 x7 x8 x9 : Value} {T : TypeId} (h : w.heap[N]? = some (.cells #[x0, x1, x2, x3, x4, x5, x6, x7, x8, x9] T (0, 0))) (a0 a1 a2 a3 a4 a5 a6 a7 a8 a9 : Value) :
    (setLe w N 0 [a0, a1, a2, a3, a4, a5, a6, a7, a8, a9]).heap[N]? = some (.cells #[a0, a1, a2, a3, a4, a5, a6, a7, a8, a9] T (0, 0)) :=
  heap_setLe [a0, a1, a2, a3, a4, a5, a6, a7, a8, a9] [] [x0, x1, x2, x3, x4, x5, x6, x7, x8, x9] w (by simp) h
set_option maxHeartbeats 6400000 in
theorem psource_any (N : Nat) (w : World) (b off : Nat) (wn wc : Nat) (ws : List Wd) (s0 : PS) (h : RdS N w (some ⟨b, off, none⟩) wn wc ws s0) (hr : RCx b off wn wc ws) :
    Calls Tryz.prog 147 #[.pointer (some ⟨N, 0, none⟩)] w (PsV (AgV soS) N w (some ⟨b, off, none⟩) wn wc ws (sourceR ws s0)) := by
  have HRc := Lib.hid hr
  have HN := Lib.hid h.low
  have HIt := Lib.hid (show sourceR ws s0 = (if (takeR ws 1 kAS (nameR ws s0).2).1 = true then (⟨(nameR ws s0).1, (nameR ws (takeR ws 1 kAS (nameR ws s0).2).2).1, zET⟩, (nameR ws (takeR ws 1 kAS (nameR ws s0).2).2).2) else (⟨(nameR ws s0).1, (nameR ws s0).1, zET⟩, (takeR ws 1 kAS (nameR ws s0).2).2)) from rfl)
  have HB := Lib.hid (bel0 (.cells #[.string ⟨#[]⟩, .string ⟨#[]⟩, .int .i64 0, .string ⟨#[]⟩, .int .i64 0, .int .i64 0, .string ⟨#[]⟩, .string ⟨#[]⟩, .string ⟨#[]⟩, .slice none 0 0] 129) (Below.refl w.heap.size w))
  have HX1 := Lib.hid (Go.heap_alloc_new w (.cells #[.string ⟨#[]⟩, .string ⟨#[]⟩, .int .i64 0, .string ⟨#[]⟩, .int .i64 0, .int .i64 0, .string ⟨#[]⟩, .string ⟨#[]⟩, .string ⟨#[]⟩, .slice none 0 0] 129 (0, 0)))
  have HS1 := Lib.hid (h.below HB.out)
  have HT1 := Lib.hid (RTo.of_below (N := N) HB.out (Nat.le_of_lt h.low))
  have HW1 := Lib.hid (show w.heap.size < (w.alloc (.cells #[.string ⟨#[]⟩, .string ⟨#[]⟩, .int .i64 0, .string ⟨#[]⟩, .int .i64 0, .int .i64 0, .string ⟨#[]⟩, .string ⟨#[]⟩, .string ⟨#[]⟩, .slice none 0 0] 129)).heap.size from (Array.getElem?_eq_some_iff.1 HX1.out).1)
  clear h hr
  go_enter Tryz.func147, Tryz.ntmps147
  go_upto_region 1 with (fail)
  generalize w.alloc (.cells #[.string ⟨#[]⟩, .string ⟨#[]⟩, .int .i64 0, .string ⟨#[]⟩, .int .i64 0, .int .i64 0, .string ⟨#[]⟩, .string ⟨#[]⟩, .string ⟨#[]⟩, .slice none 0 0] 129) = w1 at *
  have HL1 := Lib.hid (Nat.le_refl w1.heap.size)
  have HNs := Lib.hid (nameR_le ws s0)
  have HNm := Lib.hid (pname_any2 N w1 _ wn wc ws s0 HS1.out HRc.out.z)
  obtain ⟨q, hq⟩ : ∃ q, q = nameR ws s0 := ⟨_, rfl⟩
  rw [← hq] at HIt HNm HNs
  clear hq
  obtain ⟨tab, s1⟩ := q
  dsimp only at HIt HNm HNs
  have HNstab := Lib.hid HNs.out
  go_wp2_with fail
  refine HNm.out.mono ?_
  rintro e w2 ⟨rfl, h1, h2⟩
  have HS2 := Lib.hid h1
  have HT2 := Lib.hid (HT1.out.trans h2)
  have HX2 := Lib.hid ((h2.block _ (Array.getElem?_eq_some_iff.1 HX1.out).1 (by have := HN.out; omega)).trans HX1.out)
  have HL2 := Lib.hid (Nat.le_trans HL1.out h2.size)
  clear h1 h2
  go_upto_region 2 with (fail)
  have HBa := Lib.hid (bel0 (.cells #[.string tab, .string ⟨#[]⟩, .int .i64 0, .string ⟨#[]⟩, .int .i64 0, .int .i64 0, .string ⟨#[]⟩, .string ⟨#[]⟩, .string ⟨#[]⟩, .slice none 0 0] 129) (Below.refl w2.heap.size w2))
  have HY3 := Lib.hid (Go.heap_alloc_new w2 (.cells #[.string tab, .string ⟨#[]⟩, .int .i64 0, .string ⟨#[]⟩, .int .i64 0, .int .i64 0, .string ⟨#[]⟩, .string ⟨#[]⟩, .string ⟨#[]⟩, .slice none 0 0] 129 (0, 0)))
  have HS3 := Lib.hid (HS2.out.below HBa.out)
  have HT3 := Lib.hid (HT2.out.trans (RTo.of_below HBa.out (Nat.le_of_lt HS2.out.low)))
  have HX3 := Lib.hid ((HBa.out.block _ (Array.getElem?_eq_some_iff.1 HX2.out).1).trans HX2.out)
  have HW2 := Lib.hid (show w.heap.size < w2.heap.size from (Array.getElem?_eq_some_iff.1 HX2.out).1)
  have HN2 := Lib.hid (show N < w2.heap.size from HS2.out.low)
  have HL3 := Lib.hid (Nat.le_trans HL2.out HBa.out.size)
  generalize w2.alloc (.cells #[.string tab, .string ⟨#[]⟩, .int .i64 0, .string ⟨#[]⟩, .int .i64 0, .int .i64 0, .string ⟨#[]⟩, .string ⟨#[]⟩, .string ⟨#[]⟩, .slice none 0 0] 129) = w3 at *
  have HS4 := Lib.hid (HS3.out.setLe (R := w2.heap.size) HN2.out 1 [.string tab])
  have HT4 := Lib.hid (HT3.out.setLe (R := w2.heap.size) (Nat.le_of_lt HN2.out) (Nat.le_of_lt HW2.out) 1 [.string tab])
  have HX4 := Lib.hid ((setLe_other (B := w2.heap.size) (M := w.heap.size) (by have := HW2.out; omega) [.string tab] 1 w3).trans HX3.out)
  have HY4 := Lib.hid (show (setLe w3 w2.heap.size 1 [.string tab]).heap[w2.heap.size]? = some (.cells #[.string tab, .string tab, .int .i64 0, .string ⟨#[]⟩, .int .i64 0, .int .i64 0, .string ⟨#[]⟩, .string ⟨#[]⟩, .string ⟨#[]⟩, .slice none 0 0] 129 (0, 0)) from Go.heap_setCell_same w3 w2.heap.size 1 _ _ _ HY3.out)
  have HL4 := Lib.hid (show w1.heap.size ≤ (setLe w3 w2.heap.size 1 [.string tab]).heap.size by rw [setLe_size]; exact HL3.out)
  obtain ⟨l0, l1, l2, l3, l4, l5, l6, l7, l8, l9, lz, lN⟩ := rowc_so HY3.out
  go_upto_region 3 with (fail)
  generalize hwa : setLe w3 w2.heap.size 1 [.string tab] = w4 at *
  have hwb : (w3.setCell ⟨w2.heap.size, 1, none⟩ (.string tab)) = w4 := hwa
  rw [hwb]
  clear hwa hwb l0 l1 l2 l3 l4 l5 l6 l7 l8 l9 lz lN
  have HKw := Lib.hid (pkeyword_any kAS N w4 _ wn wc ws s1 HS4.out)
  obtain ⟨r, hrr⟩ : ∃ r, r = takeR ws 1 kAS s1 := ⟨_, rfl⟩
  rw [← hrr] at HKw HIt
  clear hrr
  obtain ⟨tb, s2⟩ := r
  dsimp only at HKw HIt
  rw [show bs kAS = ⟨#[65, 83]⟩ from rfl] at HKw
  go_wp2_with fail
  refine HKw.out.mono ?_
  rintro e w5 ⟨rfl, h1, h2⟩
  have HS5 := Lib.hid h1
  have HT5 := Lib.hid (HT4.out.trans h2)
  have HX5 := Lib.hid ((h2.block _ (Array.getElem?_eq_some_iff.1 HX4.out).1 (by have := HN.out; omega)).trans HX4.out)
  have HY5 := Lib.hid ((h2.block _ (Array.getElem?_eq_some_iff.1 HY4.out).1 (by have := HN2.out; omega)).trans HY4.out)
  have HL5 := Lib.hid (Nat.le_trans HL4.out h2.size)
  clear h1 h2
  cases tb with
  | false =>
    have HR := Lib.hid (show sourceR ws s0 = (⟨tab, tab, zET⟩, s2) from HIt.out)
    obtain ⟨l0, l1, l2, l3, l4, l5, l6, l7, l8, l9, lz, lN⟩ := rowc_so HY5.out
    obtain ⟨g0, g1, g2, g3, g4, g5, g6, g7, g8, g9, gz, gN⟩ := rowc_so HX5.out
    have HFin := Lib.hid (wbox_so HX5.out (.string tab) (.string tab) (.int .i64 0) (.string ⟨#[]⟩) (.int .i64 0) (.int .i64 0) (.string ⟨#[]⟩) (.string ⟨#[]⟩) (.string ⟨#[]⟩) (.slice none 0 0))
    have HF1 := Lib.hid (HS5.out.setLe (R := w.heap.size) HN.out 0 [.string tab, .string tab, .int .i64 0, .string ⟨#[]⟩, .int .i64 0, .int .i64 0, .string ⟨#[]⟩, .string ⟨#[]⟩, .string ⟨#[]⟩, .slice none 0 0])
    have HF2 := Lib.hid (HT5.out.setLe (R := w.heap.size) (Nat.le_of_lt HN.out) (Nat.le_refl _) 0 [.string tab, .string tab, .int .i64 0, .string ⟨#[]⟩, .int .i64 0, .int .i64 0, .string ⟨#[]⟩, .string ⟨#[]⟩, .string ⟨#[]⟩, .slice none 0 0])
    go_wp2
    refine bodyPost_ret (results_so rfl _ _ w.heap.size _ _ _ _ _ _ _ _ _ _ rfl HFin.out) rfl ?_
    rw [HR.out]
    exact ⟨⟨_, rfl, _, rfl, none, 0, rfl, prg_zero.e, .nil none, HNstab.out, HNstab.out⟩, HF1.out, HF2.out⟩
  | true =>
    replace HIt := Lib.hid (show sourceR ws s0 = (⟨tab, (nameR ws s2).1, zET⟩, (nameR ws s2).2) from HIt.out)
    have HNs := Lib.hid (nameR_le ws s2)
    have HNm := Lib.hid (pname_any2 N w5 _ wn wc ws s2 HS5.out HRc.out.z)
    obtain ⟨q, hq⟩ : ∃ q, q = nameR ws s2 := ⟨_, rfl⟩
    rw [← hq] at HIt HNm HNs
    clear hq
    obtain ⟨nm, s3⟩ := q
    dsimp only at HIt HNm HNs
    have HNsnm := Lib.hid HNs.out
    go_wp2_with fail
    refine HNm.out.mono ?_
    rintro e w6 ⟨rfl, h1, h2⟩
    have HS6 := Lib.hid h1
    have HT6 := Lib.hid (HT5.out.trans h2)
    have HX6 := Lib.hid ((h2.block _ (Array.getElem?_eq_some_iff.1 HX5.out).1 (by have := HN.out; omega)).trans HX5.out)
    have HY6 := Lib.hid ((h2.block _ (Array.getElem?_eq_some_iff.1 HY5.out).1 (by have := HN2.out; omega)).trans HY5.out)
    have HL6 := Lib.hid (Nat.le_trans HL5.out h2.size)
    clear h1 h2
    have HS7 := Lib.hid (HS6.out.setLe (R := w2.heap.size) HN2.out 1 [.string nm])
    have HT7 := Lib.hid (HT6.out.setLe (R := w2.heap.size) (Nat.le_of_lt HN2.out) (Nat.le_of_lt HW2.out) 1 [.string nm])
    have HX7 := Lib.hid ((setLe_other (B := w2.heap.size) (M := w.heap.size) (by have := HW2.out; omega) [.string nm] 1 w6).trans HX6.out)
    have HY7 := Lib.hid (show (setLe w6 w2.heap.size 1 [.string nm]).heap[w2.heap.size]? = some (.cells #[.string tab, .string nm, .int .i64 0, .string ⟨#[]⟩, .int .i64 0, .int .i64 0, .string ⟨#[]⟩, .string ⟨#[]⟩, .string ⟨#[]⟩, .slice none 0 0] 129 (0, 0)) from Go.heap_setCell_same w6 w2.heap.size 1 _ _ _ HY6.out)
    have HL7 := Lib.hid (show w1.heap.size ≤ (setLe w6 w2.heap.size 1 [.string nm]).heap.size by rw [setLe_size]; exact HL6.out)
    obtain ⟨l0, l1, l2, l3, l4, l5, l6, l7, l8, l9, lz, lN⟩ := rowc_so HY6.out
    go_upto_region 5 with (fail)
    generalize hwa : setLe w6 w2.heap.size 1 [.string nm] = w7 at *
    have hwb : (w6.setCell ⟨w2.heap.size, 1, none⟩ (.string nm)) = w7 := hwa
    rw [hwb]
    clear hwa hwb l0 l1 l2 l3 l4 l5 l6 l7 l8 l9 lz lN
    have HR := Lib.hid (show sourceR ws s0 = (⟨tab, nm, zET⟩, s3) from HIt.out)
    obtain ⟨l0, l1, l2, l3, l4, l5, l6, l7, l8, l9, lz, lN⟩ := rowc_so HY7.out
    obtain ⟨g0, g1, g2, g3, g4, g5, g6, g7, g8, g9, gz, gN⟩ := rowc_so HX7.out
    have HFin := Lib.hid (wbox_so HX7.out (.string tab) (.string nm) (.int .i64 0) (.string ⟨#[]⟩) (.int .i64 0) (.int .i64 0) (.string ⟨#[]⟩) (.string ⟨#[]⟩) (.string ⟨#[]⟩) (.slice none 0 0))
    have HF1 := Lib.hid (HS7.out.setLe (R := w.heap.size) HN.out 0 [.string tab, .string nm, .int .i64 0, .string ⟨#[]⟩, .int .i64 0, .int .i64 0, .string ⟨#[]⟩, .string ⟨#[]⟩, .string ⟨#[]⟩, .slice none 0 0])
    have HF2 := Lib.hid (HT7.out.setLe (R := w.heap.size) (Nat.le_of_lt HN.out) (Nat.le_refl _) 0 [.string tab, .string nm, .int .i64 0, .string ⟨#[]⟩, .int .i64 0, .int .i64 0, .string ⟨#[]⟩, .string ⟨#[]⟩, .string ⟨#[]⟩, .slice none 0 0])
    go_wp2
    refine bodyPost_ret (results_so rfl _ _ w.heap.size _ _ _ _ _ _ _ _ _ _ rfl HFin.out) rfl ?_
    rw [HR.out]
    exact ⟨⟨_, rfl, _, rfl, none, 0, rfl, prg_zero.e, .nil none, HNstab.out, HNsnm.out⟩, HF1.out, HF2.out⟩
def colD (ws : List Wd) (nm : ByteArray) (k : Int) (c : Bool) (s : PS) : Co × PS := (⟨nm, k, c, (takeR ws 1 kUNIQUE s).1⟩, (takeR ws 1 kUNIQUE s).2)
def colC (ws : List Wd) (nm : ByteArray) (k : Int) (s : PS) : Co × PS := if (takeR ws 1 kNOT s).1 = true then colD ws nm k true (mustK ws [kNULL] (takeR ws 1 kNOT s).2) else colD ws nm k false (takeR ws 1 kNOT s).2
theorem columnR_eq (ws : List Wd) (s : PS) : columnR ws s = (if (takeR ws 1 kINT (nameR ws s).2).1 = true then colC ws (nameR ws s).1 1 (takeR ws 1 kINT (nameR ws s).2).2 else colC ws (nameR ws s).1 2 (mustK ws [kTEXT] (takeR ws 1 kINT (nameR ws s).2).2)) := by
  unfold columnR colC colD
  dsimp only
  cases h : (takeR ws 1 kINT (nameR ws s).2).1 with
  | true =>
    simp only [if_true]
    cases h2 : (takeR ws 1 kNOT (takeR ws 1 kINT (nameR ws s).2).2).1 <;> simp [h2]
  | false =>
    simp only [Bool.false_eq_true, if_false]
    cases h2 : (takeR ws 1 kNOT (mustK ws [kTEXT] (takeR ws 1 kINT (nameR ws s).2).2)).1 <;> simp [h2]
theorem results_co {fn : Func} {p : Tmp} (h : fn.results = #[.cell p 89]) (tmps : Array Value) (w : World) (g : Nat) (x0 x1 x2 x3 : Value)
    (hp : tmps.getD p undef = .pointer (some ⟨g, 0, none⟩)) (hg : w.heap[g]? = some (.cells #[x0, x1, x2, x3] 89 (0, 0))) :
    (results fn tmps).run Tryz.prog w = .ok (.agg #[x0, x1, x2, x3]) w := by
  have hp' : tmps[p]?.getD undef = .pointer (some ⟨g, 0, none⟩) := by simpa using hp
  have hl := run_loadVar_row (P := Tryz.prog) w g 89 89 #[x0, x1, x2, x3] (0, 0) _ hg Tryz.underlying89 rfl (by
    have : (Tryz.prog.info? 89).map (·.size) = some 4 := by kernel_rfl
    exact this)
  simp [results, h, hp', asAddr, hl]
theorem rowc_co {w : World} {N : Nat} {x0 x1 x2 x3 : Value} {T : TypeId} (h : w.heap[N]? = some (.cells #[x0, x1, x2, x3] T (0, 0))) :
    w.cell? ⟨N, 0, none⟩ = some x0 ∧ w.cell? ⟨N, 1, none⟩ = some x1 ∧ w.cell? ⟨N, 2, none⟩ = some x2 ∧ w.cell? ⟨N, 3, none⟩ = some x3 ∧ (∀ j, w.frozen? ⟨N, j, none⟩ = false) ∧ N < w.heap.size :=
  ⟨cell_of_row _ _ 0 _ _ _ h, cell_of_row _ _ 1 _ _ _ h, cell_of_row _ _ 2 _ _ _ h, cell_of_row _ _ 3 _ _ _ h, fun j => frozen_of_row _ _ j _ _ h, (Array.getElem?_eq_some_iff.1 h).1⟩
theorem wbox_co {w : World} {N : Nat} {x0 x1 x2 x3 : Value} {T : TypeId} (h : w.heap[N]? = some (.cells #[x0, x1, x2, x3] T (0, 0))) (a0 a1 a2 a3 : Value) :
    (setLe w N 0 [a0, a1, a2, a3]).heap[N]? = some (.cells #[a0, a1, a2, a3] T (0, 0)) :=
  heap_setLe [a0, a1, a2, a3] [] [x0, x1, x2, x3] w (by simp) h
set_option maxHeartbeats 6400000 in
theorem pcolumn_any (N : Nat) (w : World) (b off : Nat) (wn wc : Nat) (ws : List Wd) (s0 : PS) (h : RdS N w (some ⟨b, off, none⟩) wn wc ws s0) (hr : RCx b off wn wc ws) :
    Calls Tryz.prog 102 #[.pointer (some ⟨N, 0, none⟩)] w (PsV (AgV coS) N w (some ⟨b, off, none⟩) wn wc ws (columnR ws s0)) := by
  have HRc := Lib.hid hr
  have HN := Lib.hid h.low
  have HIt := Lib.hid (show columnR ws s0 = (if (takeR ws 1 kINT (nameR ws s0).2).1 = true then colC ws (nameR ws s0).1 1 (takeR ws 1 kINT (nameR ws s0).2).2 else colC ws (nameR ws s0).1 2 (mustK ws [kTEXT] (takeR ws 1 kINT (nameR ws s0).2).2)) from columnR_eq ws s0)
  have HB := Lib.hid (bel0 (.cells #[.string ⟨#[]⟩, .int .i64 0, .bool false, .bool false] 89) (Below.refl w.heap.size w))
  have HX1 := Lib.hid (Go.heap_alloc_new w (.cells #[.string ⟨#[]⟩, .int .i64 0, .bool false, .bool false] 89 (0, 0)))
  have HS1 := Lib.hid (h.below HB.out)
  have HT1 := Lib.hid (RTo.of_below (N := N) HB.out (Nat.le_of_lt h.low))
  have HW1 := Lib.hid (show w.heap.size < (w.alloc (.cells #[.string ⟨#[]⟩, .int .i64 0, .bool false, .bool false] 89)).heap.size from (Array.getElem?_eq_some_iff.1 HX1.out).1)
  clear h hr
  go_enter Tryz.func102, Tryz.ntmps102
  go_upto_region 1 with (fail)
  generalize w.alloc (.cells #[.string ⟨#[]⟩, .int .i64 0, .bool false, .bool false] 89) = w1 at *
  have HL1 := Lib.hid (Nat.le_refl w1.heap.size)
  have HNs := Lib.hid (nameR_le ws s0)
  have HNm := Lib.hid (pname_any2 N w1 _ wn wc ws s0 HS1.out HRc.out.z)
  obtain ⟨q, hq⟩ : ∃ q, q = nameR ws s0 := ⟨_, rfl⟩
  rw [← hq] at HIt HNm HNs
  clear hq
  obtain ⟨nm, s1⟩ := q
  dsimp only at HIt HNm HNs
  have HNsnm := Lib.hid HNs.out
  go_wp2_with fail
  refine HNm.out.mono ?_
  rintro e w2 ⟨rfl, h1, h2⟩
  have HS2 := Lib.hid h1
  have HT2 := Lib.hid (HT1.out.trans h2)
  have HX2 := Lib.hid ((h2.block _ (Array.getElem?_eq_some_iff.1 HX1.out).1 (by have := HN.out; omega)).trans HX1.out)
  have HL2 := Lib.hid (Nat.le_trans HL1.out h2.size)
  clear h1 h2
  go_upto_region 2 with (fail)
  have HBa := Lib.hid (bel0 (.cells #[.string nm, .int .i64 1, .bool false, .bool false] 89) (Below.refl w2.heap.size w2))
  have HY3 := Lib.hid (Go.heap_alloc_new w2 (.cells #[.string nm, .int .i64 1, .bool false, .bool false] 89 (0, 0)))
  have HS3 := Lib.hid (HS2.out.below HBa.out)
  have HT3 := Lib.hid (HT2.out.trans (RTo.of_below HBa.out (Nat.le_of_lt HS2.out.low)))
  have HX3 := Lib.hid ((HBa.out.block _ (Array.getElem?_eq_some_iff.1 HX2.out).1).trans HX2.out)
  have HW2 := Lib.hid (show w.heap.size < w2.heap.size from (Array.getElem?_eq_some_iff.1 HX2.out).1)
  have HN2 := Lib.hid (show N < w2.heap.size from HS2.out.low)
  have HL3 := Lib.hid (Nat.le_trans HL2.out HBa.out.size)
  generalize w2.alloc (.cells #[.string nm, .int .i64 1, .bool false, .bool false] 89) = w3 at *
  have HKw := Lib.hid (pkeyword_any kINT N w3 _ wn wc ws s1 HS3.out)
  obtain ⟨r, hrr⟩ : ∃ r, r = takeR ws 1 kINT s1 := ⟨_, rfl⟩
  rw [← hrr] at HKw HIt
  clear hrr
  obtain ⟨tb, s2⟩ := r
  dsimp only at HKw HIt
  rw [show bs kINT = ⟨#[73, 78, 84]⟩ from rfl] at HKw
  go_wp2_with fail
  refine HKw.out.mono ?_
  rintro e w4 ⟨rfl, h1, h2⟩
  have HS4 := Lib.hid h1
  have HT4 := Lib.hid (HT3.out.trans h2)
  have HX4 := Lib.hid ((h2.block _ (Array.getElem?_eq_some_iff.1 HX3.out).1 (by have := HN.out; omega)).trans HX3.out)
  have HY4 := Lib.hid ((h2.block _ (Array.getElem?_eq_some_iff.1 HY3.out).1 (by have := HN2.out; omega)).trans HY3.out)
  have HL4 := Lib.hid (Nat.le_trans HL3.out h2.size)
  clear h1 h2
  cases tb with
  | true =>
    replace HIt := Lib.hid (show columnR ws s0 = colC ws nm 1 s2 from HIt.out)
    replace HIt := Lib.hid (show columnR ws s0 = (if (takeR ws 1 kNOT s2).1 = true then colD ws nm 1 true (mustK ws [kNULL] (takeR ws 1 kNOT s2).2) else colD ws nm 1 false (takeR ws 1 kNOT s2).2) from HIt.out)
    have HKw := Lib.hid (pkeyword_any kNOT N w4 _ wn wc ws s2 HS4.out)
    obtain ⟨r, hrr⟩ : ∃ r, r = takeR ws 1 kNOT s2 := ⟨_, rfl⟩
    rw [← hrr] at HKw HIt
    clear hrr
    obtain ⟨tc, s3⟩ := r
    dsimp only at HKw HIt
    rw [show bs kNOT = ⟨#[78, 79, 84]⟩ from rfl] at HKw
    go_wp2_with fail
    refine HKw.out.mono ?_
    rintro e w5 ⟨rfl, h1, h2⟩
    have HS5 := Lib.hid h1
    have HT5 := Lib.hid (HT4.out.trans h2)
    have HX5 := Lib.hid ((h2.block _ (Array.getElem?_eq_some_iff.1 HX4.out).1 (by have := HN.out; omega)).trans HX4.out)
    have HY5 := Lib.hid ((h2.block _ (Array.getElem?_eq_some_iff.1 HY4.out).1 (by have := HN2.out; omega)).trans HY4.out)
    have HL5 := Lib.hid (Nat.le_trans HL4.out h2.size)
    clear h1 h2
    cases tc with
    | true =>
      replace HIt := Lib.hid (show columnR ws s0 = colD ws nm 1 true (mustK ws [kNULL] s3) from HIt.out)
      have HBk := Lib.hid (bel0 (.cells #[.string ⟨#[78, 85, 76, 76]⟩] 9) (Below.refl w5.heap.size w5))
      have HKx := Lib.hid (Go.heap_alloc_new w5 (.cells #[.string ⟨#[78, 85, 76, 76]⟩] 9 (0, 0)))
      have HMu := Lib.hid (must_any [kNULL] (by decide) N (w5.alloc (.cells #[.string ⟨#[78, 85, 76, 76]⟩] 9)) _ wn wc ws s3 (HS5.out.below HBk.out) (some ⟨w5.heap.size, 0, none⟩) 1 ⟨w5.heap.size, 0, rfl, by have := HS5.out.low; omega, (Array.getElem?_eq_some_iff.1 HKx.out).1, fun q hq => by
        have h0 : q = 0 := by simpa using hq
        subst h0
        exact cell_of_row _ _ 0 _ _ _ HKx.out⟩)
      obtain ⟨s4, hsm⟩ : ∃ q, q = mustK ws [kNULL] s3 := ⟨_, rfl⟩
      rw [← hsm] at HMu HIt
      clear hsm
      have h2k := RTo.of_below (N := N) HBk.out (Nat.le_of_lt HS5.out.low)
      go_wp2_with fail
      refine HMu.out.mono ?_
      rintro e w6 ⟨rfl, h1, h2x⟩
      have h2 := h2k.trans h2x
      have HS6 := Lib.hid h1
      have HT6 := Lib.hid (HT5.out.trans h2)
      have HX6 := Lib.hid ((h2.block _ (Array.getElem?_eq_some_iff.1 HX5.out).1 (by have := HN.out; omega)).trans HX5.out)
      have HY6 := Lib.hid ((h2.block _ (Array.getElem?_eq_some_iff.1 HY5.out).1 (by have := HN2.out; omega)).trans HY5.out)
      have HL6 := Lib.hid (Nat.le_trans HL5.out h2.size)
      clear h1 h2 h2k h2x
      have HS7 := Lib.hid (HS6.out.setLe (R := w2.heap.size) HN2.out 2 [.bool true])
      have HT7 := Lib.hid (HT6.out.setLe (R := w2.heap.size) (Nat.le_of_lt HN2.out) (Nat.le_of_lt HW2.out) 2 [.bool true])
      have HX7 := Lib.hid ((setLe_other (B := w2.heap.size) (M := w.heap.size) (by have := HW2.out; omega) [.bool true] 2 w6).trans HX6.out)
      have HY7 := Lib.hid (show (setLe w6 w2.heap.size 2 [.bool true]).heap[w2.heap.size]? = some (.cells #[.string nm, .int .i64 1, .bool true, .bool false] 89 (0, 0)) from Go.heap_setCell_same w6 w2.heap.size 2 _ _ _ HY6.out)
      have HL7 := Lib.hid (show w1.heap.size ≤ (setLe w6 w2.heap.size 2 [.bool true]).heap.size by rw [setLe_size]; exact HL6.out)
      obtain ⟨l0, l1, l2, l3, lz, lN⟩ := rowc_co HY6.out
      go_upto_region 8 with (fail)
      generalize hwa : setLe w6 w2.heap.size 2 [.bool true] = w7 at *
      have hwb : (w6.setCell ⟨w2.heap.size, 2, none⟩ (.bool true)) = w7 := hwa
      rw [hwb]
      clear hwa hwb l0 l1 l2 l3 lz lN
      replace HIt := Lib.hid (show columnR ws s0 = (⟨nm, 1, true, (takeR ws 1 kUNIQUE s4).1⟩, (takeR ws 1 kUNIQUE s4).2) from HIt.out)
      have HKw := Lib.hid (pkeyword_any kUNIQUE N w7 _ wn wc ws s4 HS7.out)
      obtain ⟨r, hrr⟩ : ∃ r, r = takeR ws 1 kUNIQUE s4 := ⟨_, rfl⟩
      rw [← hrr] at HKw HIt
      clear hrr
      obtain ⟨td, s5⟩ := r
      dsimp only at HKw HIt
      rw [show bs kUNIQUE = ⟨#[85, 78, 73, 81, 85, 69]⟩ from rfl] at HKw
      go_wp2_with fail
      refine HKw.out.mono ?_
      rintro e w8 ⟨rfl, h1, h2⟩
      have HS8 := Lib.hid h1
      have HT8 := Lib.hid (HT7.out.trans h2)
      have HX8 := Lib.hid ((h2.block _ (Array.getElem?_eq_some_iff.1 HX7.out).1 (by have := HN.out; omega)).trans HX7.out)
      have HY8 := Lib.hid ((h2.block _ (Array.getElem?_eq_some_iff.1 HY7.out).1 (by have := HN2.out; omega)).trans HY7.out)
      have HL8 := Lib.hid (Nat.le_trans HL7.out h2.size)
      clear h1 h2
      have HS9 := Lib.hid (HS8.out.setLe (R := w2.heap.size) HN2.out 3 [.bool td])
      have HT9 := Lib.hid (HT8.out.setLe (R := w2.heap.size) (Nat.le_of_lt HN2.out) (Nat.le_of_lt HW2.out) 3 [.bool td])
      have HX9 := Lib.hid ((setLe_other (B := w2.heap.size) (M := w.heap.size) (by have := HW2.out; omega) [.bool td] 3 w8).trans HX8.out)
      have HY9 := Lib.hid (show (setLe w8 w2.heap.size 3 [.bool td]).heap[w2.heap.size]? = some (.cells #[.string nm, .int .i64 1, .bool true, .bool td] 89 (0, 0)) from Go.heap_setCell_same w8 w2.heap.size 3 _ _ _ HY8.out)
      have HL9 := Lib.hid (show w1.heap.size ≤ (setLe w8 w2.heap.size 3 [.bool td]).heap.size by rw [setLe_size]; exact HL8.out)
      obtain ⟨l0, l1, l2, l3, lz, lN⟩ := rowc_co HY8.out
      go_upto_region 9 with (fail)
      generalize hwa : setLe w8 w2.heap.size 3 [.bool td] = w9 at *
      have hwb : (w8.setCell ⟨w2.heap.size, 3, none⟩ (.bool td)) = w9 := hwa
      rw [hwb]
      clear hwa hwb l0 l1 l2 l3 lz lN
      have HR := Lib.hid (show columnR ws s0 = (⟨nm, 1, true, td⟩, s5) from HIt.out)
      obtain ⟨l0, l1, l2, l3, lz, lN⟩ := rowc_co HY9.out
      obtain ⟨g0, g1, g2, g3, gz, gN⟩ := rowc_co HX9.out
      have HFin := Lib.hid (wbox_co HX9.out (.string nm) (.int .i64 1) (.bool true) (.bool td))
      have HF1 := Lib.hid (HS9.out.setLe (R := w.heap.size) HN.out 0 [.string nm, .int .i64 1, .bool true, .bool td])
      have HF2 := Lib.hid (HT9.out.setLe (R := w.heap.size) (Nat.le_of_lt HN.out) (Nat.le_refl _) 0 [.string nm, .int .i64 1, .bool true, .bool td])
      go_wp2
      refine bodyPost_ret (results_co rfl _ _ w.heap.size _ _ _ _ rfl HFin.out) rfl ?_
      rw [HR.out]
      exact ⟨⟨_, rfl, _, rfl, rfl, HNsnm.out, .inl rfl⟩, HF1.out, HF2.out⟩
    | false =>
      replace HIt := Lib.hid (show columnR ws s0 = colD ws nm 1 false s3 from HIt.out)
      replace HIt := Lib.hid (show columnR ws s0 = (⟨nm, 1, false, (takeR ws 1 kUNIQUE s3).1⟩, (takeR ws 1 kUNIQUE s3).2) from HIt.out)
      have HKw := Lib.hid (pkeyword_any kUNIQUE N w5 _ wn wc ws s3 HS5.out)
      obtain ⟨r, hrr⟩ : ∃ r, r = takeR ws 1 kUNIQUE s3 := ⟨_, rfl⟩
      rw [← hrr] at HKw HIt
      clear hrr
      obtain ⟨td, s4⟩ := r
      dsimp only at HKw HIt
      rw [show bs kUNIQUE = ⟨#[85, 78, 73, 81, 85, 69]⟩ from rfl] at HKw
      go_wp2_with fail
      refine HKw.out.mono ?_
      rintro e w6 ⟨rfl, h1, h2⟩
      have HS6 := Lib.hid h1
      have HT6 := Lib.hid (HT5.out.trans h2)
      have HX6 := Lib.hid ((h2.block _ (Array.getElem?_eq_some_iff.1 HX5.out).1 (by have := HN.out; omega)).trans HX5.out)
      have HY6 := Lib.hid ((h2.block _ (Array.getElem?_eq_some_iff.1 HY5.out).1 (by have := HN2.out; omega)).trans HY5.out)
      have HL6 := Lib.hid (Nat.le_trans HL5.out h2.size)
      clear h1 h2
      have HS7 := Lib.hid (HS6.out.setLe (R := w2.heap.size) HN2.out 3 [.bool td])
      have HT7 := Lib.hid (HT6.out.setLe (R := w2.heap.size) (Nat.le_of_lt HN2.out) (Nat.le_of_lt HW2.out) 3 [.bool td])
      have HX7 := Lib.hid ((setLe_other (B := w2.heap.size) (M := w.heap.size) (by have := HW2.out; omega) [.bool td] 3 w6).trans HX6.out)
      have HY7 := Lib.hid (show (setLe w6 w2.heap.size 3 [.bool td]).heap[w2.heap.size]? = some (.cells #[.string nm, .int .i64 1, .bool false, .bool td] 89 (0, 0)) from Go.heap_setCell_same w6 w2.heap.size 3 _ _ _ HY6.out)
      have HL7 := Lib.hid (show w1.heap.size ≤ (setLe w6 w2.heap.size 3 [.bool td]).heap.size by rw [setLe_size]; exact HL6.out)
      obtain ⟨l0, l1, l2, l3, lz, lN⟩ := rowc_co HY6.out
      go_upto_region 9 with (fail)
      generalize hwa : setLe w6 w2.heap.size 3 [.bool td] = w7 at *
      have hwb : (w6.setCell ⟨w2.heap.size, 3, none⟩ (.bool td)) = w7 := hwa
      rw [hwb]
      clear hwa hwb l0 l1 l2 l3 lz lN
      have HR := Lib.hid (show columnR ws s0 = (⟨nm, 1, false, td⟩, s4) from HIt.out)
      obtain ⟨l0, l1, l2, l3, lz, lN⟩ := rowc_co HY7.out
      obtain ⟨g0, g1, g2, g3, gz, gN⟩ := rowc_co HX7.out
      have HFin := Lib.hid (wbox_co HX7.out (.string nm) (.int .i64 1) (.bool false) (.bool td))
      have HF1 := Lib.hid (HS7.out.setLe (R := w.heap.size) HN.out 0 [.string nm, .int .i64 1, .bool false, .bool td])
      have HF2 := Lib.hid (HT7.out.setLe (R := w.heap.size) (Nat.le_of_lt HN.out) (Nat.le_refl _) 0 [.string nm, .int .i64 1, .bool false, .bool td])
      go_wp2
      refine bodyPost_ret (results_co rfl _ _ w.heap.size _ _ _ _ rfl HFin.out) rfl ?_
      rw [HR.out]
      exact ⟨⟨_, rfl, _, rfl, rfl, HNsnm.out, .inl rfl⟩, HF1.out, HF2.out⟩
  | false =>
    replace HIt := Lib.hid (show columnR ws s0 = colC ws nm 2 (mustK ws [kTEXT] s2) from HIt.out)
    have HBk := Lib.hid (bel0 (.cells #[.string ⟨#[84, 69, 88, 84]⟩] 9) (Below.refl w4.heap.size w4))
    have HKx := Lib.hid (Go.heap_alloc_new w4 (.cells #[.string ⟨#[84, 69, 88, 84]⟩] 9 (0, 0)))
    have HMu := Lib.hid (must_any [kTEXT] (by decide) N (w4.alloc (.cells #[.string ⟨#[84, 69, 88, 84]⟩] 9)) _ wn wc ws s2 (HS4.out.below HBk.out) (some ⟨w4.heap.size, 0, none⟩) 1 ⟨w4.heap.size, 0, rfl, by have := HS4.out.low; omega, (Array.getElem?_eq_some_iff.1 HKx.out).1, fun q hq => by
      have h0 : q = 0 := by simpa using hq
      subst h0
      exact cell_of_row _ _ 0 _ _ _ HKx.out⟩)
    obtain ⟨s3, hsm⟩ : ∃ q, q = mustK ws [kTEXT] s2 := ⟨_, rfl⟩
    rw [← hsm] at HMu HIt
    clear hsm
    have h2k := RTo.of_below (N := N) HBk.out (Nat.le_of_lt HS4.out.low)
    go_wp2_with fail
    refine HMu.out.mono ?_
    rintro e w5 ⟨rfl, h1, h2x⟩
    have h2 := h2k.trans h2x
    have HS5 := Lib.hid h1
    have HT5 := Lib.hid (HT4.out.trans h2)
    have HX5 := Lib.hid ((h2.block _ (Array.getElem?_eq_some_iff.1 HX4.out).1 (by have := HN.out; omega)).trans HX4.out)
    have HY5 := Lib.hid ((h2.block _ (Array.getElem?_eq_some_iff.1 HY4.out).1 (by have := HN2.out; omega)).trans HY4.out)
    have HL5 := Lib.hid (Nat.le_trans HL4.out h2.size)
    clear h1 h2 h2k h2x
    have HS6 := Lib.hid (HS5.out.setLe (R := w2.heap.size) HN2.out 1 [.int .i64 2])
    have HT6 := Lib.hid (HT5.out.setLe (R := w2.heap.size) (Nat.le_of_lt HN2.out) (Nat.le_of_lt HW2.out) 1 [.int .i64 2])
    have HX6 := Lib.hid ((setLe_other (B := w2.heap.size) (M := w.heap.size) (by have := HW2.out; omega) [.int .i64 2] 1 w5).trans HX5.out)
    have HY6 := Lib.hid (show (setLe w5 w2.heap.size 1 [.int .i64 2]).heap[w2.heap.size]? = some (.cells #[.string nm, .int .i64 2, .bool false, .bool false] 89 (0, 0)) from Go.heap_setCell_same w5 w2.heap.size 1 _ _ _ HY5.out)
    have HL6 := Lib.hid (show w1.heap.size ≤ (setLe w5 w2.heap.size 1 [.int .i64 2]).heap.size by rw [setLe_size]; exact HL5.out)
    obtain ⟨l0, l1, l2, l3, lz, lN⟩ := rowc_co HY5.out
    go_upto_region 5 with (fail)
    generalize hwa : setLe w5 w2.heap.size 1 [.int .i64 2] = w6 at *
    have hwb : (w5.setCell ⟨w2.heap.size, 1, none⟩ (.int .i64 2)) = w6 := hwa
    rw [hwb]
    clear hwa hwb l0 l1 l2 l3 lz lN
    replace HIt := Lib.hid (show columnR ws s0 = (if (takeR ws 1 kNOT s3).1 = true then colD ws nm 2 true (mustK ws [kNULL] (takeR ws 1 kNOT s3).2) else colD ws nm 2 false (takeR ws 1 kNOT s3).2) from HIt.out)
    have HKw := Lib.hid (pkeyword_any kNOT N w6 _ wn wc ws s3 HS6.out)
    obtain ⟨r, hrr⟩ : ∃ r, r = takeR ws 1 kNOT s3 := ⟨_, rfl⟩
    rw [← hrr] at HKw HIt
    clear hrr
    obtain ⟨tc, s4⟩ := r
    dsimp only at HKw HIt
    rw [show bs kNOT = ⟨#[78, 79, 84]⟩ from rfl] at HKw
    go_wp2_with fail
    refine HKw.out.mono ?_
    rintro e w7 ⟨rfl, h1, h2⟩
    have HS7 := Lib.hid h1
    have HT7 := Lib.hid (HT6.out.trans h2)
    have HX7 := Lib.hid ((h2.block _ (Array.getElem?_eq_some_iff.1 HX6.out).1 (by have := HN.out; omega)).trans HX6.out)
    have HY7 := Lib.hid ((h2.block _ (Array.getElem?_eq_some_iff.1 HY6.out).1 (by have := HN2.out; omega)).trans HY6.out)
    have HL7 := Lib.hid (Nat.le_trans HL6.out h2.size)
    clear h1 h2
    cases tc with
    | true =>
      replace HIt := Lib.hid (show columnR ws s0 = colD ws nm 2 true (mustK ws [kNULL] s4) from HIt.out)
      have HBk := Lib.hid (bel0 (.cells #[.string ⟨#[78, 85, 76, 76]⟩] 9) (Below.refl w7.heap.size w7))
      have HKx := Lib.hid (Go.heap_alloc_new w7 (.cells #[.string ⟨#[78, 85, 76, 76]⟩] 9 (0, 0)))
      have HMu := Lib.hid (must_any [kNULL] (by decide) N (w7.alloc (.cells #[.string ⟨#[78, 85, 76, 76]⟩] 9)) _ wn wc ws s4 (HS7.out.below HBk.out) (some ⟨w7.heap.size, 0, none⟩) 1 ⟨w7.heap.size, 0, rfl, by have := HS7.out.low; omega, (Array.getElem?_eq_some_iff.1 HKx.out).1, fun q hq => by
        have h0 : q = 0 := by simpa using hq
        subst h0
        exact cell_of_row _ _ 0 _ _ _ HKx.out⟩)
      obtain ⟨s5, hsm⟩ : ∃ q, q = mustK ws [kNULL] s4 := ⟨_, rfl⟩
      rw [← hsm] at HMu HIt
      clear hsm
      have h2k := RTo.of_below (N := N) HBk.out (Nat.le_of_lt HS7.out.low)
      go_wp2_with fail
      refine HMu.out.mono ?_
      rintro e w8 ⟨rfl, h1, h2x⟩
      have h2 := h2k.trans h2x
      have HS8 := Lib.hid h1
      have HT8 := Lib.hid (HT7.out.trans h2)
      have HX8 := Lib.hid ((h2.block _ (Array.getElem?_eq_some_iff.1 HX7.out).1 (by have := HN.out; omega)).trans HX7.out)
      have HY8 := Lib.hid ((h2.block _ (Array.getElem?_eq_some_iff.1 HY7.out).1 (by have := HN2.out; omega)).trans HY7.out)
      have HL8 := Lib.hid (Nat.le_trans HL7.out h2.size)
      clear h1 h2 h2k h2x
      have HS9 := Lib.hid (HS8.out.setLe (R := w2.heap.size) HN2.out 2 [.bool true])
      have HT9 := Lib.hid (HT8.out.setLe (R := w2.heap.size) (Nat.le_of_lt HN2.out) (Nat.le_of_lt HW2.out) 2 [.bool true])
      have HX9 := Lib.hid ((setLe_other (B := w2.heap.size) (M := w.heap.size) (by have := HW2.out; omega) [.bool true] 2 w8).trans HX8.out)
      have HY9 := Lib.hid (show (setLe w8 w2.heap.size 2 [.bool true]).heap[w2.heap.size]? = some (.cells #[.string nm, .int .i64 2, .bool true, .bool false] 89 (0, 0)) from Go.heap_setCell_same w8 w2.heap.size 2 _ _ _ HY8.out)
      have HL9 := Lib.hid (show w1.heap.size ≤ (setLe w8 w2.heap.size 2 [.bool true]).heap.size by rw [setLe_size]; exact HL8.out)
      obtain ⟨l0, l1, l2, l3, lz, lN⟩ := rowc_co HY8.out
      go_upto_region 8 with (fail)
      generalize hwa : setLe w8 w2.heap.size 2 [.bool true] = w9 at *
      have hwb : (w8.setCell ⟨w2.heap.size, 2, none⟩ (.bool true)) = w9 := hwa
      rw [hwb]
      clear hwa hwb l0 l1 l2 l3 lz lN
      replace HIt := Lib.hid (show columnR ws s0 = (⟨nm, 2, true, (takeR ws 1 kUNIQUE s5).1⟩, (takeR ws 1 kUNIQUE s5).2) from HIt.out)
      have HKw := Lib.hid (pkeyword_any kUNIQUE N w9 _ wn wc ws s5 HS9.out)
      obtain ⟨r, hrr⟩ : ∃ r, r = takeR ws 1 kUNIQUE s5 := ⟨_, rfl⟩
      rw [← hrr] at HKw HIt
      clear hrr
      obtain ⟨td, s6⟩ := r
      dsimp only at HKw HIt
      rw [show bs kUNIQUE = ⟨#[85, 78, 73, 81, 85, 69]⟩ from rfl] at HKw
      go_wp2_with fail
      refine HKw.out.mono ?_
      rintro e w10 ⟨rfl, h1, h2⟩
      have HS10 := Lib.hid h1
      have HT10 := Lib.hid (HT9.out.trans h2)
      have HX10 := Lib.hid ((h2.block _ (Array.getElem?_eq_some_iff.1 HX9.out).1 (by have := HN.out; omega)).trans HX9.out)
      have HY10 := Lib.hid ((h2.block _ (Array.getElem?_eq_some_iff.1 HY9.out).1 (by have := HN2.out; omega)).trans HY9.out)
      have HL10 := Lib.hid (Nat.le_trans HL9.out h2.size)
      clear h1 h2
      have HS11 := Lib.hid (HS10.out.setLe (R := w2.heap.size) HN2.out 3 [.bool td])
      have HT11 := Lib.hid (HT10.out.setLe (R := w2.heap.size) (Nat.le_of_lt HN2.out) (Nat.le_of_lt HW2.out) 3 [.bool td])
      have HX11 := Lib.hid ((setLe_other (B := w2.heap.size) (M := w.heap.size) (by have := HW2.out; omega) [.bool td] 3 w10).trans HX10.out)
      have HY11 := Lib.hid (show (setLe w10 w2.heap.size 3 [.bool td]).heap[w2.heap.size]? = some (.cells #[.string nm, .int .i64 2, .bool true, .bool td] 89 (0, 0)) from Go.heap_setCell_same w10 w2.heap.size 3 _ _ _ HY10.out)
      have HL11 := Lib.hid (show w1.heap.size ≤ (setLe w10 w2.heap.size 3 [.bool td]).heap.size by rw [setLe_size]; exact HL10.out)
      obtain ⟨l0, l1, l2, l3, lz, lN⟩ := rowc_co HY10.out
      go_upto_region 9 with (fail)
      generalize hwa : setLe w10 w2.heap.size 3 [.bool td] = w11 at *
      have hwb : (w10.setCell ⟨w2.heap.size, 3, none⟩ (.bool td)) = w11 := hwa
      rw [hwb]
      clear hwa hwb l0 l1 l2 l3 lz lN
      have HR := Lib.hid (show columnR ws s0 = (⟨nm, 2, true, td⟩, s6) from HIt.out)
      obtain ⟨l0, l1, l2, l3, lz, lN⟩ := rowc_co HY11.out
      obtain ⟨g0, g1, g2, g3, gz, gN⟩ := rowc_co HX11.out
      have HFin := Lib.hid (wbox_co HX11.out (.string nm) (.int .i64 2) (.bool true) (.bool td))
      have HF1 := Lib.hid (HS11.out.setLe (R := w.heap.size) HN.out 0 [.string nm, .int .i64 2, .bool true, .bool td])
      have HF2 := Lib.hid (HT11.out.setLe (R := w.heap.size) (Nat.le_of_lt HN.out) (Nat.le_refl _) 0 [.string nm, .int .i64 2, .bool true, .bool td])
      go_wp2
      refine bodyPost_ret (results_co rfl _ _ w.heap.size _ _ _ _ rfl HFin.out) rfl ?_
      rw [HR.out]
      exact ⟨⟨_, rfl, _, rfl, rfl, HNsnm.out, .inr rfl⟩, HF1.out, HF2.out⟩
    | false =>
      replace HIt := Lib.hid (show columnR ws s0 = colD ws nm 2 false s4 from HIt.out)
      replace HIt := Lib.hid (show columnR ws s0 = (⟨nm, 2, false, (takeR ws 1 kUNIQUE s4).1⟩, (takeR ws 1 kUNIQUE s4).2) from HIt.out)
      have HKw := Lib.hid (pkeyword_any kUNIQUE N w7 _ wn wc ws s4 HS7.out)
      obtain ⟨r, hrr⟩ : ∃ r, r = takeR ws 1 kUNIQUE s4 := ⟨_, rfl⟩
      rw [← hrr] at HKw HIt
      clear hrr
      obtain ⟨td, s5⟩ := r
      dsimp only at HKw HIt
      rw [show bs kUNIQUE = ⟨#[85, 78, 73, 81, 85, 69]⟩ from rfl] at HKw
      go_wp2_with fail
      refine HKw.out.mono ?_
      rintro e w8 ⟨rfl, h1, h2⟩
      have HS8 := Lib.hid h1
      have HT8 := Lib.hid (HT7.out.trans h2)
      have HX8 := Lib.hid ((h2.block _ (Array.getElem?_eq_some_iff.1 HX7.out).1 (by have := HN.out; omega)).trans HX7.out)
      have HY8 := Lib.hid ((h2.block _ (Array.getElem?_eq_some_iff.1 HY7.out).1 (by have := HN2.out; omega)).trans HY7.out)
      have HL8 := Lib.hid (Nat.le_trans HL7.out h2.size)
      clear h1 h2
      have HS9 := Lib.hid (HS8.out.setLe (R := w2.heap.size) HN2.out 3 [.bool td])
      have HT9 := Lib.hid (HT8.out.setLe (R := w2.heap.size) (Nat.le_of_lt HN2.out) (Nat.le_of_lt HW2.out) 3 [.bool td])
      have HX9 := Lib.hid ((setLe_other (B := w2.heap.size) (M := w.heap.size) (by have := HW2.out; omega) [.bool td] 3 w8).trans HX8.out)
      have HY9 := Lib.hid (show (setLe w8 w2.heap.size 3 [.bool td]).heap[w2.heap.size]? = some (.cells #[.string nm, .int .i64 2, .bool false, .bool td] 89 (0, 0)) from Go.heap_setCell_same w8 w2.heap.size 3 _ _ _ HY8.out)
      have HL9 := Lib.hid (show w1.heap.size ≤ (setLe w8 w2.heap.size 3 [.bool td]).heap.size by rw [setLe_size]; exact HL8.out)
      obtain ⟨l0, l1, l2, l3, lz, lN⟩ := rowc_co HY8.out
      go_upto_region 9 with (fail)
      generalize hwa : setLe w8 w2.heap.size 3 [.bool td] = w9 at *
      have hwb : (w8.setCell ⟨w2.heap.size, 3, none⟩ (.bool td)) = w9 := hwa
      rw [hwb]
      clear hwa hwb l0 l1 l2 l3 lz lN
      have HR := Lib.hid (show columnR ws s0 = (⟨nm, 2, false, td⟩, s5) from HIt.out)
      obtain ⟨l0, l1, l2, l3, lz, lN⟩ := rowc_co HY9.out
      obtain ⟨g0, g1, g2, g3, gz, gN⟩ := rowc_co HX9.out
      have HFin := Lib.hid (wbox_co HX9.out (.string nm) (.int .i64 2) (.bool false) (.bool td))
      have HF1 := Lib.hid (HS9.out.setLe (R := w.heap.size) HN.out 0 [.string nm, .int .i64 2, .bool false, .bool td])
      have HF2 := Lib.hid (HT9.out.setLe (R := w.heap.size) (Nat.le_of_lt HN.out) (Nat.le_refl _) 0 [.string nm, .int .i64 2, .bool false, .bool td])
      go_wp2
      refine bodyPost_ret (results_co rfl _ _ w.heap.size _ _ _ _ rfl HFin.out) rfl ?_
      rw [HR.out]
      exact ⟨⟨_, rfl, _, rfl, rfl, HNsnm.out, .inr rfl⟩, HF1.out, HF2.out⟩
end Go.Proofs.YtknhphcfcpjhiaaGreatDoor
