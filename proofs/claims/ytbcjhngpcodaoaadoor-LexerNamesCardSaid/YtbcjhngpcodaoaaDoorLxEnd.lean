/- The lexer at the document's first text: end, step, Words; awake. -/
import Derived.Test.YtbcjhngpcodaoaaDoorLxNum
namespace Go.Proofs.YtbcjhngpcodaoaaDoor
open Go.RowKit
set_option linter.unusedVariables false
set_option maxRecDepth 100000

set_option maxHeartbeats 1600000 in
theorem addnumber_1 (w : World) (N : Nat) (v : Value) (n : Nat) (xs : List Value) (st start : Int) (h : St w N v n xs st start) (hn : n < 600) : Calls Tryd.prog 62 #[.pointer (some ⟨N, 0, none⟩), .string ⟨#[49]⟩] w (More w N (n + 1) (xs ++ wordX 2 ⟨#[49]⟩ 1) st start) := by
  have HH := Lib.hid h
  have HN := Lib.hid hn
  clear h hn
  go_enter Tryd.func62, Tryd.ntmps62
  go_wp2_with fail
  refine (parseint_1 _).mono ?_
  rintro e w1 ⟨rfl, hb⟩
  have H1 := Lib.hid (HH.out.below hb)
  have HK := Lib.hid (Kp.below (Nat.le_of_lt HH.out.low) hb)
  clear hb
  go_wp2_with fail
  refine (add_any w1 N v n xs st start 2 ⟨#[49]⟩ 1 H1.out HN.out).mono ?_
  rintro e w2 ⟨rfl, v', hs, hk⟩
  have HE := Lib.hid (show St w2 N v' (n + 1) (xs ++ wordX 2 ⟨#[49]⟩ 1) st start ∧ Kp N w w2 from ⟨hs, HK.out.trans hk⟩)
  clear hs hk
  go_wp2
  go_ret
  exact ⟨rfl, v', HE.out⟩

set_option maxHeartbeats 1600000 in
theorem end_blank (w : World) (N : Nat) (v : Value) (n : Nat) (xs : List Value) (h : St w N v n xs 0 0) : Calls Tryd.prog 51 #[.pointer (some ⟨N, 0, none⟩), .int .i64 0] w (Went w N v n xs 0 0) := by
  have f0 := fun k => (h.drew k).facts.1.1
  have f2 := fun k => (h.drew k).facts.1.2.2.1
  have f3 := fun k => (h.drew k).facts.1.2.2.2
  obtain ⟨⟨g0, _, g2, g3⟩, fz⟩ := h.facts
  have hc := cut00
  have HH := Lib.hid h
  clear h
  go_enter Tryd.func51, Tryd.ntmps51
  go_upto_region 1 with (fail)
  go_quiet (fail)
  obtain ⟨w1, hw1⟩ : ∃ w1, w1 = w.drewN nq := ⟨_, rfl⟩
  rw [← hw1]
  have HB1 := Lib.hid (show Below w.heap.size w w1 by rw [hw1]; exact (⟨rfl, rfl, rfl, Nat.le_refl _, fun _ _ => rfl⟩ : Below w.heap.size w (w.drewN nq)))
  have H1 := Lib.hid (show St w1 N v n xs 0 0 by rw [hw1]; exact HH.out.drew _)
  clear hw1 f0 f2 f3 g0 g2 g3 fz
  obtain ⟨⟨g0, _, g2, g3⟩, fz⟩ := H1.out.facts
  have H2 := Lib.hid (show St (w1.setCell ⟨N, 2, none⟩ (.int .i64 0)) N v n xs 0 0 ∧ Kp N w (w1.setCell ⟨N, 2, none⟩ (.int .i64 0)) from ⟨H1.out.state 0, (Kp.below (Nat.le_of_lt HH.out.low) HB1.out).trans (Kp.set H1.out.rd _ _)⟩)
  go_wp2
  go_ret
  exact ⟨rfl, H2.out⟩

set_option maxHeartbeats 1600000 in
theorem end_name (w : World) (N : Nat) (v : Value) (n : Nat) (xs : List Value) (h : St w N v n xs 1 0) (hn : n < 600) : Calls Tryd.prog 51 #[.pointer (some ⟨N, 0, none⟩), .int .i64 1] w (More w N (n + 1) (xs ++ wordX 1 ⟨#[97]⟩ 0) 0 0) := by
  have f0 := fun k => (h.drew k).facts.1.1
  have f2 := fun k => (h.drew k).facts.1.2.2.1
  have f3 := fun k => (h.drew k).facts.1.2.2.2
  obtain ⟨⟨g0, _, g2, g3⟩, fz⟩ := h.facts
  have hc := cut01
  have HH := Lib.hid h
  have HN := Lib.hid hn
  clear hn
  clear h
  go_enter Tryd.func51, Tryd.ntmps51
  go_upto_region 1 with (fail)
  go_quiet (fail)
  obtain ⟨w1, hw1⟩ : ∃ w1, w1 = w.drewN nq := ⟨_, rfl⟩
  rw [← hw1]
  have HB1 := Lib.hid (show Below w.heap.size w w1 by rw [hw1]; exact (⟨rfl, rfl, rfl, Nat.le_refl _, fun _ _ => rfl⟩ : Below w.heap.size w (w.drewN nq)))
  have H1 := Lib.hid (show St w1 N v n xs 1 0 by rw [hw1]; exact HH.out.drew _)
  clear hw1 f0 f2 f3 g0 g2 g3 fz
  obtain ⟨⟨g0, _, g2, g3⟩, fz⟩ := H1.out.facts
  have H2 := Lib.hid (show St (w1.setCell ⟨N, 2, none⟩ (.int .i64 0)) N v n xs 0 0 ∧ Kp N w (w1.setCell ⟨N, 2, none⟩ (.int .i64 0)) from ⟨H1.out.state 0, (Kp.below (Nat.le_of_lt HH.out.low) HB1.out).trans (Kp.set H1.out.rd _ _)⟩)
  have hr : Lib.runeCount ⟨#[97]⟩ = 1 := by decide +kernel
  go_wp2_with fail
  refine (runes_any ⟨#[97]⟩ _ (by decide)).mono ?_
  rintro e w3 ⟨rfl, q, hw⟩
  rw [hr]
  have H3 := Lib.hid (show St w3 N v n xs 0 0 ∧ Kp N w w3 by rw [hw]; exact ⟨H2.out.1.below (bel0 _ (Below.refl _ _)), H2.out.2.trans (Kp.below (Nat.le_of_lt H2.out.1.low) (bel0 _ (Below.refl _ _)))⟩)
  clear hw hr
  go_wp2_with fail
  refine (add_any w3 N v n xs 0 0 1 ⟨#[97]⟩ 0 H3.out.1 HN.out).mono ?_
  rintro e w4 ⟨rfl, v', hs, hk⟩
  have HE := Lib.hid (show _ ∧ _ from ⟨hs, H3.out.2.trans hk⟩)
  clear hs hk
  go_wp2
  go_ret
  exact ⟨rfl, v', HE.out⟩

set_option maxHeartbeats 1600000 in
theorem end_sign (w : World) (N : Nat) (v : Value) (n : Nat) (xs : List Value) (h : St w N v n xs 5 1) (hn : n < 600) : Calls Tryd.prog 51 #[.pointer (some ⟨N, 0, none⟩), .int .i64 3] w (More w N (n + 1) (xs ++ wordX 4 ⟨#[60, 61]⟩ 0) 0 1) := by
  have f0 := fun k => (h.drew k).facts.1.1
  have f2 := fun k => (h.drew k).facts.1.2.2.1
  have f3 := fun k => (h.drew k).facts.1.2.2.2
  obtain ⟨⟨g0, _, g2, g3⟩, fz⟩ := h.facts
  have hc := cut13
  have HH := Lib.hid h
  have HN := Lib.hid hn
  clear hn
  clear h
  go_enter Tryd.func51, Tryd.ntmps51
  go_upto_region 1 with (fail)
  go_quiet (fail)
  obtain ⟨w1, hw1⟩ : ∃ w1, w1 = w.drewN nq := ⟨_, rfl⟩
  rw [← hw1]
  have HB1 := Lib.hid (show Below w.heap.size w w1 by rw [hw1]; exact (⟨rfl, rfl, rfl, Nat.le_refl _, fun _ _ => rfl⟩ : Below w.heap.size w (w.drewN nq)))
  have H1 := Lib.hid (show St w1 N v n xs 5 1 by rw [hw1]; exact HH.out.drew _)
  clear hw1 f0 f2 f3 g0 g2 g3 fz
  obtain ⟨⟨g0, _, g2, g3⟩, fz⟩ := H1.out.facts
  have H2 := Lib.hid (show St (w1.setCell ⟨N, 2, none⟩ (.int .i64 0)) N v n xs 0 1 ∧ Kp N w (w1.setCell ⟨N, 2, none⟩ (.int .i64 0)) from ⟨H1.out.state 0, (Kp.below (Nat.le_of_lt HH.out.low) HB1.out).trans (Kp.set H1.out.rd _ _)⟩)
  go_wp2_with fail
  refine (add_any _ N v n xs 0 1 4 ⟨#[60, 61]⟩ 0 H2.out.1 HN.out).mono ?_
  rintro e w4 ⟨rfl, v', hs, hk⟩
  have HE := Lib.hid (show _ ∧ _ from ⟨hs, H2.out.2.trans hk⟩)
  clear hs hk
  go_wp2
  go_ret
  exact ⟨rfl, v', HE.out⟩

set_option maxHeartbeats 1600000 in
theorem end_num (w : World) (N : Nat) (v : Value) (n : Nat) (xs : List Value) (h : St w N v n xs 2 3) (hn : n < 600) : Calls Tryd.prog 51 #[.pointer (some ⟨N, 0, none⟩), .int .i64 4] w (More w N (n + 1) (xs ++ wordX 2 ⟨#[49]⟩ 1) 0 3) := by
  have f0 := fun k => (h.drew k).facts.1.1
  have f2 := fun k => (h.drew k).facts.1.2.2.1
  have f3 := fun k => (h.drew k).facts.1.2.2.2
  obtain ⟨⟨g0, _, g2, g3⟩, fz⟩ := h.facts
  have hc := cut34
  have HH := Lib.hid h
  have HN := Lib.hid hn
  clear hn
  clear h
  go_enter Tryd.func51, Tryd.ntmps51
  go_upto_region 1 with (fail)
  go_quiet (fail)
  obtain ⟨w1, hw1⟩ : ∃ w1, w1 = w.drewN nq := ⟨_, rfl⟩
  rw [← hw1]
  have HB1 := Lib.hid (show Below w.heap.size w w1 by rw [hw1]; exact (⟨rfl, rfl, rfl, Nat.le_refl _, fun _ _ => rfl⟩ : Below w.heap.size w (w.drewN nq)))
  have H1 := Lib.hid (show St w1 N v n xs 2 3 by rw [hw1]; exact HH.out.drew _)
  clear hw1 f0 f2 f3 g0 g2 g3 fz
  obtain ⟨⟨g0, _, g2, g3⟩, fz⟩ := H1.out.facts
  have H2 := Lib.hid (show St (w1.setCell ⟨N, 2, none⟩ (.int .i64 0)) N v n xs 0 3 ∧ Kp N w (w1.setCell ⟨N, 2, none⟩ (.int .i64 0)) from ⟨H1.out.state 0, (Kp.below (Nat.le_of_lt HH.out.low) HB1.out).trans (Kp.set H1.out.rd _ _)⟩)
  go_wp2_with fail
  refine (addnumber_1 _ N v n xs 0 3 H2.out.1 HN.out).mono ?_
  rintro e w4 ⟨rfl, v', hs, hk⟩
  have HE := Lib.hid (show _ ∧ _ from ⟨hs, H2.out.2.trans hk⟩)
  clear hs hk
  go_wp2
  go_ret
  exact ⟨rfl, v', HE.out⟩

end Go.Proofs.YtbcjhngpcodaoaaDoor
