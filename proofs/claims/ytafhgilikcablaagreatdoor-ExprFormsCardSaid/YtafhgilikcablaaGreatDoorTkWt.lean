/- The package's taker: wait, the walk. -/
import Derived.Test.YtafhgilikcablaaGreatDoorTkWait
namespace Go.Proofs.YtafhgilikcablaaGreatDoor
open Go.RowKit
set_option linter.unusedVariables false
set_option linter.unusedSimpArgs false
set_option maxRecDepth 100000
theorem row12 {w : World} {N : Nat} {x0 x1 x2 x3 x4 x5 x6 x7 x8 x9 x10 x11 : Value} {T : TypeId} (h : w.heap[N]? = some (.cells #[x0, x1, x2, x3, x4, x5, x6, x7, x8, x9, x10, x11] T (0, 0))) :
    w.cell? ⟨N, 0, none⟩ = some x0 ∧ w.cell? ⟨N, 1, none⟩ = some x1 ∧ w.cell? ⟨N, 2, none⟩ = some x2 ∧ w.cell? ⟨N, 3, none⟩ = some x3 ∧ w.cell? ⟨N, 4, none⟩ = some x4 ∧ w.cell? ⟨N, 5, none⟩ = some x5 ∧ w.cell? ⟨N, 6, none⟩ = some x6 ∧ w.cell? ⟨N, 7, none⟩ = some x7 ∧ w.cell? ⟨N, 8, none⟩ = some x8 ∧ w.cell? ⟨N, 9, none⟩ = some x9 ∧ w.cell? ⟨N, 10, none⟩ = some x10 ∧ w.cell? ⟨N, 11, none⟩ = some x11 ∧ (∀ j, w.frozen? ⟨N, j, none⟩ = false) ∧ N < w.heap.size :=
  ⟨cell_of_row _ _ 0 _ _ _ h, cell_of_row _ _ 1 _ _ _ h, cell_of_row _ _ 2 _ _ _ h, cell_of_row _ _ 3 _ _ _ h, cell_of_row _ _ 4 _ _ _ h, cell_of_row _ _ 5 _ _ _ h, cell_of_row _ _ 6 _ _ _ h, cell_of_row _ _ 7 _ _ _ h, cell_of_row _ _ 8 _ _ _ h, cell_of_row _ _ 9 _ _ _ h, cell_of_row _ _ 10 _ _ _ h, cell_of_row _ _ 11 _ _ _ h, fun j => frozen_of_row _ _ j _ _ h, (Array.getElem?_eq_some_iff.1 h).1⟩
theorem own_sliceT {w : World} {B n size : Nat} {e : TypeId} {v : Value} {xs : List Value} (h : w.ownsRow B e size v n xs) : ∃ a c, v = .slice a n c := by
  rcases h.2 with ⟨rfl, h0⟩ | ⟨g, cap, cur, rfl, _⟩
  · exact ⟨none, 0, by rw [h0]⟩
  · exact ⟨_, _, rfl⟩
def WaitP (A : Nat → Prop) (N : Nat) (w : World) (wa : Option Addr) (wn wc : Nat) (ws : List Wd) (v : Value) (s' : Tk) (ms' : List PM) (e : Ending) (w' : World) : Prop :=
  e = .returned (.tuple #[]) ∧ ∃ v', TSt A N w' wa wn wc ws v' s' ms' ∧ TTo N v v' w w'
set_option maxHeartbeats 12800000 in
theorem wait_any (p : Pd) (la : Nat) (l : Int) (hl : InR l) (A : Nat → Prop) (N : Nat) (w : World) (wa : Option Addr) (wn wc : Nat) (ws : List Wd) (v : Value) (s : Tk) (ms : List PM) (h : TSt A N w wa wn wc ws v s ms) (h1 : p.left.length ≤ 1)
    (hp : ∀ q, p.left = [q] → la < w.heap.size ∧ TQ A N v la ∧ ∃ sa sc, PtAt w la q sa sc ∧ PRg q sa sc ∧ EL w (TQ A N v) sa q.e.parts) (hfew : s.op.length + 1 ≤ s.pos) :
    Calls Tryz.prog 54 #[.pointer (some ⟨N, 0, none⟩), .agg (pmX (p, la)).toArray, .int .i64 l] w (WaitP A N w wa wn wc ws v (waitP s p l) (ms ++ [({ p with least := s.least }, la)])) := by
  obtain ⟨la', n', c', hlf⟩ : ∃ la' n' c', (if p.left = [] then Value.slice none 0 0 else .slice (some ⟨la, 0, none⟩) 1 1) = .slice la' n' c' := by
    by_cases hh : p.left = []
    · exact ⟨_, _, _, if_pos hh⟩
    · exact ⟨_, _, _, if_neg hh⟩
  have hX : (pmX (p, la)).toArray = #[.int .i64 p.kind, .string p.op, .int .i64 0, .int .i64 0, .string ⟨#[]⟩, .string ⟨#[]⟩, .string ⟨#[]⟩, .slice none 0 0, .int .i64 p.lv, .slice la' n' c', .bool p.closes, .int .i64 p.least] := by
    simp only [pmX, hlf]
  have HX2 := Lib.hid (show (pmX ({ p with least := s.least }, la)).toArray = #[.int .i64 p.kind, .string p.op, .int .i64 0, .int .i64 0, .string ⟨#[]⟩, .string ⟨#[]⟩, .string ⟨#[]⟩, .slice none 0 0, .int .i64 p.lv, .slice la' n' c', .bool p.closes, .int .i64 s.least] by
    simp only [pmX, hlf])
  rw [hX]
  have hlow := h.low
  have hB1 := bel0 (.cells #[.int .i64 p.kind, .string p.op, .int .i64 0, .int .i64 0, .string ⟨#[]⟩, .string ⟨#[]⟩, .string ⟨#[]⟩, .slice none 0 0, .int .i64 p.lv, .slice la' n' c', .bool p.closes, .int .i64 p.least] 96) (Below.refl w.heap.size w)
  have hx1 := Go.heap_alloc_new w (.cells #[.int .i64 p.kind, .string p.op, .int .i64 0, .int .i64 0, .string ⟨#[]⟩, .string ⟨#[]⟩, .string ⟨#[]⟩, .slice none 0 0, .int .i64 p.lv, .slice la' n' c', .bool p.closes, .int .i64 p.least] 96 (0, 0))
  have HS := Lib.hid h
  have HP := Lib.hid hp
  have H1 := Lib.hid h1
  have HFw := Lib.hid hfew
  have HL := Lib.hid hl
  have hfew2 := h.few
  have hpos2 := h.pos
  have hwn := h.words.2.1
  have hms : ms.length = s.op.length := by rw [← h.are, List.length_map]
  have HMs := Lib.hid (show ms.length ≤ 100000 by omega)
  clear hX hlf h hp h1 hfew hl
  go_enter Tryz.func54, Tryz.ntmps54
  go_upto_region 1 with (fail)
  generalize w.alloc (.cells #[.int .i64 p.kind, .string p.op, .int .i64 0, .int .i64 0, .string ⟨#[]⟩, .string ⟨#[]⟩, .string ⟨#[]⟩, .slice none 0 0, .int .i64 p.lv, .slice la' n' c', .bool p.closes, .int .i64 p.least] 96) = w1 at *
  have HB1 := Lib.hid hB1
  have HX1 := Lib.hid hx1
  have HT1 := Lib.hid (HS.out.below hB1)
  obtain ⟨b0, b1, b2, b3, b4, b5, b6, b7, b8, b9, b10, b11, bz, bN⟩ := row12 hx1
  obtain ⟨c0, c1, c2, c3, fz⟩ := HT1.out.cells
  have hN1 := HT1.out.low
  clear hB1 hx1 hfew2 hpos2 hwn hms
  go_upto_region 2 with (fail)
  have hne : N ≠ w.heap.size := by omega
  have HB2 := Lib.hid (show Below w.heap.size w (w1.setCell ⟨w.heap.size, 11, none⟩ (.int .i64 s.least)) from HB1.out.setCell (p := ⟨w.heap.size, 11, none⟩) (Nat.le_refl _) _)
  have HS2 := Lib.hid ((HS.out.below HB2.out).setLeast l HL.out)
  have HT2 := Lib.hid ((TTo.of_below (v := v) HB2.out (Nat.le_of_lt hlow)).setN 2 (.int .i64 l))
  have hx2 : ((w1.setCell ⟨w.heap.size, 11, none⟩ (.int .i64 s.least)).setCell ⟨N, 2, none⟩ (.int .i64 l)).heap[w.heap.size]? = some (.cells #[.int .i64 p.kind, .string p.op, .int .i64 0, .int .i64 0, .string ⟨#[]⟩, .string ⟨#[]⟩, .string ⟨#[]⟩, .slice none 0 0, .int .i64 p.lv, .slice la' n' c', .bool p.closes, .int .i64 s.least] 96 (0, 0)) := by
    rw [heap_setCell_other _ _ _ _ (by exact hne.symm)]
    exact Go.heap_setCell_same w1 _ 11 _ _ _ HX1.out
  generalize ((w1.setCell ⟨w.heap.size, 11, none⟩ (.int .i64 s.least)).setCell ⟨N, 2, none⟩ (.int .i64 l)) = w2 at *
  clear b0 b1 b2 b3 b4 b5 b6 b7 b8 b9 b10 b11 bz bN c0 c1 c2 c3 fz hN1
  obtain ⟨b0, b1, b2, b3, b4, b5, b6, b7, b8, b9, b10, b11, -, bN⟩ := row12 hx2
  obtain ⟨c0, c1, c2, c3, fz⟩ := HS2.out.cells
  have hN2 := HS2.out.low
  have HN2 := Lib.hid hN2
  have HLf := Lib.hid (show ∀ q, p.left = [q] → la < w2.heap.size ∧ TQ A N v la ∧ ∃ sa sc, PtAt w2 la q sa sc ∧ PRg q sa sc ∧ EL w2 (TQ A N v) sa q.e.parts from fun q hq => by
    obtain ⟨g1, g2, sa, sc, g3, g4, g5⟩ := HP.out q hq
    exact ⟨Nat.lt_of_lt_of_le g1 HT2.out.below.size, g2, sa, sc, (HT2.out.block _ g1 g2.2.1 g2.2.2).trans g3, g4, g5.toT HT2.out⟩)
  obtain ⟨va, vc, hv⟩ := own_sliceT HS2.out.own
  have HV := Lib.hid hv
  have HPush := Lib.hid (fun (W w4 : World) (g cap : Nat) (hW : Below w2.heap.size w2 W) (hg : W.grownBy w4 v.ownBlock) (hor : v.ownBlock = some g ∨ g = W.heap.size) (hown : w4.ownsRow (N + 1) 96 12 (.slice (some ⟨g, 0, none⟩) (ms.length + 1) cap) (ms.length + 1) (pmsX (ms ++ [({ p with least := s.least }, la)]))) =>
    HS2.out.push ({ p with least := s.least }, la) hW hg hor hown H1.out HLf.out HFw.out)
  have HRow := Lib.hid HS2.out.own
  rw [hv] at c3 HRow
  clear hx2 hv hlow
  go_region_law ((refine step_pm rfl (.tmp 19) (.tmp 21) rfl (N + 1) (.slice va ms.length vc) ms w2.heap.size ({ p with least := s.least }, la) rfl rfl (by exact own_below HRow.out (by repeat (first | exact Below.refl _ _ | refine bel0 _ ?_ | refine Below.drew ?_))) (by rw [HX2.out]; exact Go.heap_alloc_new _ _) HMs.out (by have := HN2.out; simp; omega) ?_; intro g cap w4 hown hgrow hor; rw [← HV.out] at hgrow hor; obtain ⟨hs4, ht4, hn4⟩ := HPush.out _ w4 g cap (by repeat (first | exact Below.refl _ _ | refine bel0 _ ?_ | refine Below.drew ?_)) hgrow hor hown; have HS4 := Lib.hid hs4; have HT4 := Lib.hid ht4; have d3 := cell_of_row _ _ 3 _ _ _ (hn4.trans HS2.out.rd); have dz := frozen_of_row _ _ 3 _ _ (hn4.trans HS2.out.rd); have dN := (Array.getElem?_eq_some_iff.1 (hn4.trans HS2.out.rd)).1; clear hown hgrow hor hs4 ht4 hn4))
  all_goals
    go_wp2
  all_goals
    go_end0
    refine ⟨rfl, .slice (some ⟨g, 0, none⟩) (ms.length + 1) cap, ?_, ?_⟩
    · repeat (first | exact HS4.out | refine TSt.drew ?_)
    · repeat (first | exact HT2.out.trans HT4.out | refine TTo.drew ?_)
end Go.Proofs.YtafhgilikcablaaGreatDoor
