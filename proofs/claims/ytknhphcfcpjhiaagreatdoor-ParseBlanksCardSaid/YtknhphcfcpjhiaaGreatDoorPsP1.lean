/- The package's reader of statements: WHERE, an item. -/
import Derived.Test.YtknhphcfcpjhiaaGreatDoorPsV
namespace Go.Proofs.YtknhphcfcpjhiaaGreatDoor
open Go.RowKit
set_option linter.unusedVariables false
set_option linter.unusedSimpArgs false
set_option maxRecDepth 100000
theorem el_one {w : World} {Q : Nat → Prop} {B : Nat} {E : ET} {sa : Option Addr} {sc : Nat} {T : TypeId} (hx : w.heap[B]? = some (.cells #[.int .i64 E.kind, .string E.op, .int .i64 E.vk, .int .i64 E.vn, .string E.vs, .string E.tab, .string E.col, .slice sa E.parts.length sc] T (0, 0))) (hq : Q B) (hr : ERg E sa sc) (hl : EL w Q sa E.parts) : EL w Q (some ⟨B, 0, none⟩) [E] := by
  obtain ⟨c0, c1, c2, c3, c4, c5, c6, c7, -, hN⟩ := row8 hx
  refine .row B 0 [E] (fun _ => sa) (fun _ => sc) hq hN (fun i hi => ?_) (fun i hi => ?_) (fun i hi => ?_)
  all_goals
    have h0 : i = 0 := by simpa using hi
    subst h0
  · exact ⟨c0, c1, c2, c3, c4, c5, c6, c7⟩
  · exact hr
  · exact hl
/-- WHERE's list -/
def LeV (w : World) (Q : Nat → Prop) (v : Value) (l : List ET) : Prop := ∃ a cap, v = .slice a l.length cap ∧ EL w Q a l ∧ l.length ≤ cap ∧ cap ≤ maxLen
set_option maxHeartbeats 6400000 in
theorem pwhere_any (N : Nat) (w : World) (b off : Nat) (wn wc : Nat) (ws : List Wd) (s : PS) (h : RdS N w (some ⟨b, off, none⟩) wn wc ws s) (hr : RCx b off wn wc ws) :
    Calls Tryz.prog 59 #[.pointer (some ⟨N, 0, none⟩)] w (PsV LeV N w (some ⟨b, off, none⟩) wn wc ws (whereR ws s)) := by
  have HKw := Lib.hid (pkeyword_any kWHERE N w _ wn wc ws s h)
  have HRc := Lib.hid hr
  have HW := Lib.hid (show whereR ws s = (if (takeR ws 1 kWHERE s).1 = true then ([(exprR ws (takeR ws 1 kWHERE s).2).1], (exprR ws (takeR ws 1 kWHERE s).2).2) else ([], (takeR ws 1 kWHERE s).2)) from rfl)
  obtain ⟨r, hrr⟩ : ∃ r, r = takeR ws 1 kWHERE s := ⟨_, rfl⟩
  rw [← hrr] at HKw HW
  obtain ⟨tb, s1⟩ := r
  dsimp only at HKw HW
  have e0 : bs kWHERE = ⟨#[87, 72, 69, 82, 69]⟩ := rfl
  rw [e0] at HKw
  clear h hr hrr e0
  go_enter Tryz.func59, Tryz.ntmps59
  go_wp2_with fail
  refine HKw.out.mono ?_
  rintro e w1 ⟨rfl, h1, h2⟩
  have HS := Lib.hid h1
  have HT := Lib.hid h2
  clear h1 h2
  cases tb with
  | false =>
    have HR := Lib.hid (show whereR ws s = ([], s1) by rw [HW.out]; rfl)
    go_wp2
    go_ret
    rw [HR.out]
    exact ⟨⟨_, rfl, none, 0, rfl, .nil _, Nat.le_refl _, by unfold maxLen; omega⟩, HS.out, HT.out⟩
  | true =>
    have HR := Lib.hid (show whereR ws s = ([(exprR ws s1).1], (exprR ws s1).2) by rw [HW.out]; rfl)
    go_wp2_with fail
    refine (pexpr_any N w1 b off wn wc ws s1 HS.out HRc.out.z HRc.out.cap).mono ?_
    rintro e w2 ⟨⟨v, rfl, sa, sc, rfl, hrg, hel⟩, h1, h2⟩
    rw [etX_arr]
    obtain ⟨q, hq⟩ : ∃ q, q = exprR ws s1 := ⟨_, rfl⟩
    rw [← hq] at hrg hel h1 HR ⊢
    clear hq
    obtain ⟨E, s2⟩ := q
    dsimp only at hrg hel h1 HR ⊢
    have HRg := Lib.hid hrg
    have HEl := Lib.hid hel
    have HS2 := Lib.hid h1
    have HT2 := Lib.hid (HT.out.trans h2)
    have HZ := Lib.hid HT.out.size
    clear hrg hel h1 h2
    have HBa := Lib.hid (bel0 (.cells #[.int .i64 E.kind, .string E.op, .int .i64 E.vk, .int .i64 E.vn, .string E.vs, .string E.tab, .string E.col, .slice sa E.parts.length sc] 82) (Below.refl w2.heap.size w2))
    have HX := Lib.hid (Go.heap_alloc_new w2 (.cells #[.int .i64 E.kind, .string E.op, .int .i64 E.vk, .int .i64 E.vn, .string E.vs, .string E.tab, .string E.col, .slice sa E.parts.length sc] 82 (0, 0)))
    have HF := Lib.hid (show EL (w2.alloc (.cells #[.int .i64 E.kind, .string E.op, .int .i64 E.vk, .int .i64 E.vn, .string E.vs, .string E.tab, .string E.col, .slice sa E.parts.length sc] 82)) (fun b => w.heap.size ≤ b) (some ⟨w2.heap.size, 0, none⟩) [E] ∧ RdS N (w2.alloc (.cells #[.int .i64 E.kind, .string E.op, .int .i64 E.vk, .int .i64 E.vn, .string E.vs, .string E.tab, .string E.col, .slice sa E.parts.length sc] 82)) (some ⟨b, off, none⟩) wn wc ws s2 ∧ RTo N w (w2.alloc (.cells #[.int .i64 E.kind, .string E.op, .int .i64 E.vk, .int .i64 E.vn, .string E.vs, .string E.tab, .string E.col, .slice sa E.parts.length sc] 82)) from
      ⟨el_one HX.out HT2.out.size HRg.out ((HEl.out.mono (fun b hb _ => Nat.le_trans HZ.out hb)).keep HBa.out), HS2.out.below HBa.out, HT2.out.trans (RTo.of_below HBa.out (Nat.le_of_lt HS2.out.low))⟩)
    go_wp2
    go_ret
    rw [HR.out]
    exact ⟨⟨_, rfl, _, 1, rfl, HF.out.1, Nat.le_refl _, by unfold maxLen; omega⟩, HF.out.2.1, HF.out.2.2⟩
/-- a result that lies in a box, by value -/
theorem results_it {fn : Func} {p : Tmp} (h : fn.results = #[.cell p 127]) (tmps : Array Value) (w : World) (g : Nat) (x0 x1 x2 x3 x4 x5 x6 x7 x8 : Value)
    (hp : tmps.getD p undef = .pointer (some ⟨g, 0, none⟩)) (hg : w.heap[g]? = some (.cells #[x0, x1, x2, x3, x4, x5, x6, x7, x8] 127 (0, 0))) :
    (results fn tmps).run Tryz.prog w = .ok (.agg #[x0, x1, x2, x3, x4, x5, x6, x7, x8]) w := by
  have hp' : tmps[p]?.getD undef = .pointer (some ⟨g, 0, none⟩) := by simpa using hp
  have hl := run_loadVar_row (P := Tryz.prog) w g 127 127 #[x0, x1, x2, x3, x4, x5, x6, x7, x8] (0, 0) _ hg Tryz.underlying127 rfl (by
    have : (Tryz.prog.info? 127).map (·.size) = some 9 := by kernel_rfl
    exact this)
  simp [results, h, hp', asAddr, hl]
theorem row9 {w : World} {N : Nat} {x0 x1 x2 x3 x4 x5 x6 x7 x8 : Value} {T : TypeId} (h : w.heap[N]? = some (.cells #[x0, x1, x2, x3, x4, x5, x6, x7, x8] T (0, 0))) :
    w.cell? ⟨N, 0, none⟩ = some x0 ∧ w.cell? ⟨N, 1, none⟩ = some x1 ∧ w.cell? ⟨N, 2, none⟩ = some x2 ∧ w.cell? ⟨N, 3, none⟩ = some x3 ∧ w.cell? ⟨N, 4, none⟩ = some x4 ∧ w.cell? ⟨N, 5, none⟩ = some x5 ∧ w.cell? ⟨N, 6, none⟩ = some x6 ∧ w.cell? ⟨N, 7, none⟩ = some x7 ∧ w.cell? ⟨N, 8, none⟩ = some x8 ∧ (∀ j, w.frozen? ⟨N, j, none⟩ = false) ∧ N < w.heap.size :=
  ⟨cell_of_row _ _ 0 _ _ _ h, cell_of_row _ _ 1 _ _ _ h, cell_of_row _ _ 2 _ _ _ h, cell_of_row _ _ 3 _ _ _ h, cell_of_row _ _ 4 _ _ _ h, cell_of_row _ _ 5 _ _ _ h, cell_of_row _ _ 6 _ _ _ h, cell_of_row _ _ 7 _ _ _ h, cell_of_row _ _ 8 _ _ _ h, fun j => frozen_of_row _ _ j _ _ h, (Array.getElem?_eq_some_iff.1 h).1⟩
theorem wbox9 {w : World} {N : Nat} {x0 x1 x2 x3 x4 x5 x6 x7 x8 : Value} {T : TypeId} (h : w.heap[N]? = some (.cells #[x0, x1, x2, x3, x4, x5, x6, x7, x8] T (0, 0))) (a0 a1 a2 a3 a4 a5 a6 a7 a8 : Value) :
    (setLe w N 0 [a0, a1, a2, a3, a4, a5, a6, a7, a8]).heap[N]? = some (.cells #[a0, a1, a2, a3, a4, a5, a6, a7, a8] T (0, 0)) :=
  heap_setLe [a0, a1, a2, a3, a4, a5, a6, a7, a8] [] [x0, x1, x2, x3, x4, x5, x6, x7, x8] w (by simp) h
set_option maxHeartbeats 6400000 in
theorem pitem_any (N : Nat) (w : World) (b off : Nat) (wn wc : Nat) (ws : List Wd) (s : PS) (h : RdS N w (some ⟨b, off, none⟩) wn wc ws s) (hr : RCx b off wn wc ws) :
    Calls Tryz.prog 108 #[.pointer (some ⟨N, 0, none⟩)] w (PsV (AgV itS) N w (some ⟨b, off, none⟩) wn wc ws (itemR ws s)) := by
  have HS := Lib.hid h
  have HRc := Lib.hid hr
  have HN := Lib.hid h.low
  have HIt := Lib.hid (show itemR ws s = (if (takeR ws 1 kAS (exprR ws s).2).1 = true then (⟨(exprR ws s).1, (nameR ws (takeR ws 1 kAS (exprR ws s).2).2).1⟩, (nameR ws (takeR ws 1 kAS (exprR ws s).2).2).2) else (⟨(exprR ws s).1, eB⟩, (takeR ws 1 kAS (exprR ws s).2).2)) from rfl)
  have HB := Lib.hid (bel0 (.cells #[.int .i64 0, .string ⟨#[]⟩, .int .i64 0, .int .i64 0, .string ⟨#[]⟩, .string ⟨#[]⟩, .string ⟨#[]⟩, .slice none 0 0, .string ⟨#[]⟩] 127) (Below.refl w.heap.size w))
  have HX := Lib.hid (Go.heap_alloc_new w (.cells #[.int .i64 0, .string ⟨#[]⟩, .int .i64 0, .int .i64 0, .string ⟨#[]⟩, .string ⟨#[]⟩, .string ⟨#[]⟩, .slice none 0 0, .string ⟨#[]⟩] 127 (0, 0)))
  clear h hr
  go_enter Tryz.func108, Tryz.ntmps108
  go_upto_region 1 with (fail)
  generalize w.alloc (.cells #[.int .i64 0, .string ⟨#[]⟩, .int .i64 0, .int .i64 0, .string ⟨#[]⟩, .string ⟨#[]⟩, .string ⟨#[]⟩, .slice none 0 0, .string ⟨#[]⟩] 127) = w1 at *
  go_wp2_with fail
  refine (pexpr_any N w1 b off wn wc ws s (HS.out.below HB.out) HRc.out.z HRc.out.cap).mono ?_
  rintro e w2 ⟨⟨v, rfl, sa, sc, rfl, hrg, hel⟩, h1, h2⟩
  rw [etX_arr]
  obtain ⟨q, hq⟩ : ∃ q, q = exprR ws s := ⟨_, rfl⟩
  rw [← hq] at hrg hel h1 HIt ⊢
  clear hq
  obtain ⟨E, s1⟩ := q
  dsimp only at hrg hel h1 HIt ⊢
  have HRg := Lib.hid hrg
  have HEl := Lib.hid hel
  have HS2 := Lib.hid h1
  have HT2 := Lib.hid ((RTo.of_below HB.out (Nat.le_of_lt HN.out)).trans h2)
  have HX2 := Lib.hid ((h2.block _ (Array.getElem?_eq_some_iff.1 HX.out).1 (by have := HN.out; omega)).trans HX.out)
  have HZ := Lib.hid (Nat.le_trans HB.out.size h2.size)
  have HZ1 := Lib.hid HB.out.size
  clear hrg hel h1 h2
  go_upto_region 2 with (fail)
  have HBa := Lib.hid (bel0 (.cells #[.int .i64 E.kind, .string E.op, .int .i64 E.vk, .int .i64 E.vn, .string E.vs, .string E.tab, .string E.col, .slice sa E.parts.length sc, .string ⟨#[]⟩] 127) (Below.refl w2.heap.size w2))
  have HY := Lib.hid (Go.heap_alloc_new w2 (.cells #[.int .i64 E.kind, .string E.op, .int .i64 E.vk, .int .i64 E.vn, .string E.vs, .string E.tab, .string E.col, .slice sa E.parts.length sc, .string ⟨#[]⟩] 127 (0, 0)))
  have HS3 := Lib.hid (HS2.out.below HBa.out)
  have HT3 := Lib.hid (HT2.out.trans (RTo.of_below HBa.out (Nat.le_of_lt HS2.out.low)))
  have HX3 := Lib.hid ((HBa.out.block _ (Array.getElem?_eq_some_iff.1 HX2.out).1).trans HX2.out)
  have HE3 := Lib.hid ((HEl.out.mono (Q' := fun b => w1.heap.size ≤ b ∧ b ≠ w2.heap.size) (fun b hb hlt => ⟨hb, by omega⟩)).keep HBa.out)
  have HW2 := Lib.hid (show w.heap.size < w2.heap.size from (Array.getElem?_eq_some_iff.1 HX2.out).1)
  have HN2 := Lib.hid (show N < w2.heap.size from HS2.out.low)
  have HW1 := Lib.hid (show w.heap.size < w1.heap.size from (Array.getElem?_eq_some_iff.1 HX.out).1)
  generalize w2.alloc (.cells #[.int .i64 E.kind, .string E.op, .int .i64 E.vk, .int .i64 E.vn, .string E.vs, .string E.tab, .string E.col, .slice sa E.parts.length sc, .string ⟨#[]⟩] 127) = w3 at *
  have HKw := Lib.hid (pkeyword_any kAS N w3 _ wn wc ws s1 HS3.out)
  obtain ⟨r, hrr⟩ : ∃ r, r = takeR ws 1 kAS s1 := ⟨_, rfl⟩
  rw [← hrr] at HKw HIt
  clear hrr
  obtain ⟨tb, s2⟩ := r
  dsimp only at HKw HIt
  rw [show bs kAS = ⟨#[65, 83]⟩ from rfl] at HKw
  go_wp2_with fail
  refine HKw.out.mono ?_
  rintro e w4 ⟨rfl, h1, h2⟩
  have HS4 := Lib.hid h1
  have HT4 := Lib.hid (HT3.out.trans h2)
  have HX4 := Lib.hid ((h2.block _ (Array.getElem?_eq_some_iff.1 HX3.out).1 (by have := HN.out; omega)).trans HX3.out)
  have HY4 := Lib.hid ((h2.block _ (Array.getElem?_eq_some_iff.1 HY.out).1 (by have := HN2.out; omega)).trans HY.out)
  have HE4 := Lib.hid (HE3.out.far h2.size (fun b hb hlt => h2.block b hlt (by have := HN.out; have := HW1.out; omega)))
  clear h1 h2
  cases tb with
  | false =>
    have HR := Lib.hid (show itemR ws s = (⟨E, eB⟩, s2) by rw [HIt.out]; rfl)
    obtain ⟨l0, l1, l2, l3, l4, l5, l6, l7, l8, lz, lN⟩ := row9 HY4.out
    obtain ⟨g0, g1, g2, g3, g4, g5, g6, g7, g8, gz, gN⟩ := row9 HX4.out
    have HFin := Lib.hid (wbox9 HX4.out (.int .i64 E.kind) (.string E.op) (.int .i64 E.vk) (.int .i64 E.vn) (.string E.vs) (.string E.tab) (.string E.col) (.slice sa E.parts.length sc) (.string ⟨#[]⟩))
    have HF := Lib.hid (And.intro (HS4.out.setLe (R := w.heap.size) HN.out 0 [.int .i64 E.kind, .string E.op, .int .i64 E.vk, .int .i64 E.vn, .string E.vs, .string E.tab, .string E.col, .slice sa E.parts.length sc, .string ⟨#[]⟩]) (And.intro (HT4.out.setLe (R := w.heap.size) (Nat.le_of_lt HN.out) (Nat.le_refl _) 0 [.int .i64 E.kind, .string E.op, .int .i64 E.vk, .int .i64 E.vn, .string E.vs, .string E.tab, .string E.col, .slice sa E.parts.length sc, .string ⟨#[]⟩]) ((el_store HE4.out (R := w.heap.size) (fun b hb => by have := HW1.out; omega) 0 [.int .i64 E.kind, .string E.op, .int .i64 E.vk, .int .i64 E.vn, .string E.vs, .string E.tab, .string E.col, .slice sa E.parts.length sc, .string ⟨#[]⟩]).mono (Q' := fun b => w.heap.size ≤ b) (fun b hb _ => by have := HW1.out; omega))))
    go_wp2
    refine bodyPost_ret (results_it rfl _ _ w.heap.size _ _ _ _ _ _ _ _ _ rfl HFin.out) rfl ?_
    rw [HR.out]
    exact ⟨⟨_, rfl, _, rfl, sa, sc, rfl, HRg.out, HF.out.2.2, by show eB.size ≤ maxLen; unfold maxLen; decide⟩, HF.out.1, HF.out.2.1⟩
  | true =>
    have HR := Lib.hid (show itemR ws s = (⟨E, (nameR ws s2).1⟩, (nameR ws s2).2) by rw [HIt.out]; rfl)
    have HNs := Lib.hid (nameR_le ws s2)
    have HNm := Lib.hid (pname_any2 N w4 _ wn wc ws s2 HS4.out HRc.out.z)
    obtain ⟨q, hq⟩ : ∃ q, q = nameR ws s2 := ⟨_, rfl⟩
    rw [← hq] at HR HNm HNs
    clear hq
    obtain ⟨nm, s3⟩ := q
    dsimp only at HR HNm HNs
    go_wp2_with fail
    refine HNm.out.mono ?_
    rintro e w5 ⟨rfl, h1, h2⟩
    have HS5 := Lib.hid h1
    have HT5 := Lib.hid (HT4.out.trans h2)
    have HX5 := Lib.hid ((h2.block _ (Array.getElem?_eq_some_iff.1 HX4.out).1 (by have := HN.out; omega)).trans HX4.out)
    have HY5 := Lib.hid ((h2.block _ (Array.getElem?_eq_some_iff.1 HY4.out).1 (by have := HN2.out; omega)).trans HY4.out)
    have HE5 := Lib.hid (HE4.out.far h2.size (fun b hb hlt => h2.block b hlt (by have := HN.out; have := HW1.out; omega)))
    clear h1 h2
    have HS6 := Lib.hid (HS5.out.setLe (R := w2.heap.size) HN2.out 8 [.string nm])
    have HT6 := Lib.hid (HT5.out.setLe (R := w2.heap.size) (Nat.le_of_lt HN2.out) (Nat.le_of_lt HW2.out) 8 [.string nm])
    have HX6 := Lib.hid ((setLe_other (B := w2.heap.size) (M := w.heap.size) (by have := HW2.out; omega) [.string nm] 8 w5).trans HX5.out)
    have HY6 := Lib.hid (show (setLe w5 w2.heap.size 8 [.string nm]).heap[w2.heap.size]? = some (.cells #[.int .i64 E.kind, .string E.op, .int .i64 E.vk, .int .i64 E.vn, .string E.vs, .string E.tab, .string E.col, .slice sa E.parts.length sc, .string nm] 127 (0, 0)) from Go.heap_setCell_same w5 w2.heap.size 8 _ _ _ HY5.out)
    have HE6 := Lib.hid (el_store HE5.out (R := w2.heap.size) (fun b hb => hb.2) 8 [.string nm])
    obtain ⟨l0, l1, l2, l3, l4, l5, l6, l7, l8, lz, lN⟩ := row9 HY5.out
    go_upto_region 4 with (fail)
    generalize hw6 : setLe w5 w2.heap.size 8 [.string nm] = w6 at *
    have hw7 : w5.setCell ⟨w2.heap.size, 8, none⟩ (.string nm) = w6 := hw6
    rw [hw7]
    clear hw6 hw7 l0 l1 l2 l3 l4 l5 l6 l7 l8 lz lN
    obtain ⟨l0, l1, l2, l3, l4, l5, l6, l7, l8, lz, lN⟩ := row9 HY6.out
    obtain ⟨g0, g1, g2, g3, g4, g5, g6, g7, g8, gz, gN⟩ := row9 HX6.out
    have HFin := Lib.hid (wbox9 HX6.out (.int .i64 E.kind) (.string E.op) (.int .i64 E.vk) (.int .i64 E.vn) (.string E.vs) (.string E.tab) (.string E.col) (.slice sa E.parts.length sc) (.string nm))
    have HF := Lib.hid (And.intro (HS6.out.setLe (R := w.heap.size) HN.out 0 [.int .i64 E.kind, .string E.op, .int .i64 E.vk, .int .i64 E.vn, .string E.vs, .string E.tab, .string E.col, .slice sa E.parts.length sc, .string nm]) (And.intro (HT6.out.setLe (R := w.heap.size) (Nat.le_of_lt HN.out) (Nat.le_refl _) 0 [.int .i64 E.kind, .string E.op, .int .i64 E.vk, .int .i64 E.vn, .string E.vs, .string E.tab, .string E.col, .slice sa E.parts.length sc, .string nm]) ((el_store HE6.out (R := w.heap.size) (fun b hb => by have := HW1.out; omega) 0 [.int .i64 E.kind, .string E.op, .int .i64 E.vk, .int .i64 E.vn, .string E.vs, .string E.tab, .string E.col, .slice sa E.parts.length sc, .string nm]).mono (Q' := fun b => w.heap.size ≤ b) (fun b hb _ => by have := HW1.out; omega))))
    go_wp2
    refine bodyPost_ret (results_it rfl _ _ w.heap.size _ _ _ _ _ _ _ _ _ rfl HFin.out) rfl ?_
    rw [HR.out]
    exact ⟨⟨_, rfl, _, rfl, sa, sc, rfl, HRg.out, HF.out.2.2, HNs.out⟩, HF.out.1, HF.out.2.1⟩
end Go.Proofs.YtknhphcfcpjhiaaGreatDoor
