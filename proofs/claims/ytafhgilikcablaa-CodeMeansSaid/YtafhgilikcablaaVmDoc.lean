/- The document's machine: logic, a value that stands in a row. -/
import Derived.Test.YtafhgilikcablaaLwLet
import Derived.Deep.RegionHeld3
import Derived.BigQuiet
import Derived.Test.YtafhgilikcablaaQTail
namespace Go.Proofs.Ytafhgilikcablaa
open Go.RowKit
set_option linter.unusedVariables false
set_option linter.unusedSimpArgs false
set_option maxRecDepth 100000

theorem vand_any (a b : Int) (w : World) : Calls Try.prog 114 #[.string ⟨#[65, 78, 68]⟩, .int .i64 a, .int .i64 b] w fun e w' => e = .returned (.int .i64 (andI a b)) ∧ w = w' := by
  go_enter Try.func114, Try.ntmps114
  go_wp2_with fail
  refine (rand_any a b _).mono ?_
  rintro e w2 ⟨rfl, hw⟩
  subst hw
  go_wp2
  go_ret
  exact ⟨rfl, rfl⟩
theorem vor_any (a b : Int) (w : World) : Calls Try.prog 114 #[.string ⟨#[79, 82]⟩, .int .i64 a, .int .i64 b] w fun e w' => e = .returned (.int .i64 (orI a b)) ∧ w = w' := by
  go_enter Try.func114, Try.ntmps114
  go_wp2_with fail
  refine (ror_any a b _).mono ?_
  rintro e w2 ⟨rfl, hw⟩
  subst hw
  go_wp2
  go_ret
  exact ⟨rfl, rfl⟩
set_option maxHeartbeats 6400000 in
/-- the document's column -/
theorem rcolumnK_any (kk : Int) (pv : Value) (Wb : Nat) (a : Option Addr) (len cap : Nat) (R : List (List Val)) (I J : Nat) (w : World) (hR : IsRR w a len R) (hi2 : (I : Int) ≤ 9223372036854775807) (hj2 : (J : Int) ≤ 9223372036854775807) (hW : w.cell? ⟨Wb, 0, none⟩ = some (.slice a len cap)) :
    Calls Try.prog 108 #[.pointer (some ⟨Wb, 0, none⟩), .agg #[.int .i64 kk, .string ⟨#[]⟩, .int .i64 0, .int .i64 0, .string ⟨#[]⟩, .int .i64 (I : Int), .int .i64 (J : Int), pv]] w (ColP w (colF R I J)) := by
  have hlen := hR.2.1
  obtain ⟨w0, hw0⟩ : ∃ w0, w0 = w.alloc (.cells #[.int .i64 kk, .string ⟨#[]⟩, .int .i64 0, .int .i64 0, .string ⟨#[]⟩, .int .i64 (I : Int), .int .i64 (J : Int), pv] 56) := ⟨_, rfl⟩
  obtain ⟨w1, hw1⟩ : ∃ w1, w1 = w0.alloc (.cells #[.int .i64 0, .int .i64 0, .string ⟨#[]⟩] 38) := ⟨_, rfl⟩
  have hz0 : w0.heap.size = w.heap.size + 1 := by rw [hw0]; simp
  have hb0 : Below w.heap.size w w0 := by rw [hw0]; exact bel0 _ (Below.refl _ _)
  have hb01 : Below w0.heap.size w0 w1 := by rw [hw1]; exact bel0 _ (Below.refl _ _)
  have hc0 : w1.heap[w.heap.size]? = some (.cells #[.int .i64 kk, .string ⟨#[]⟩, .int .i64 0, .int .i64 0, .string ⟨#[]⟩, .int .i64 (I : Int), .int .i64 (J : Int), pv] 56 (0, 0)) := (hb01.block w.heap.size (by omega)).trans (by rw [hw0]; exact Go.heap_alloc_new w _)
  have hnew : w1.heap[w0.heap.size]? = some (.cells #[.int .i64 0, .int .i64 0, .string ⟨#[]⟩] 38 (0, 0)) := by rw [hw1]; exact Go.heap_alloc_new _ _
  have hb1 : Below w.heap.size w w1 := bt hb0 hb01
  have g5 : ∀ s : Fut w1, s.to.cell? ⟨w.heap.size, 5, none⟩ = some (.int .i64 (I : Int)) := Fut.cell (cell_of_row _ _ 5 _ _ _ hc0)
  have g6 : ∀ s : Fut w1, s.to.cell? ⟨w.heap.size, 6, none⟩ = some (.int .i64 (J : Int)) := Fut.cell (cell_of_row _ _ 6 _ _ _ hc0)
  have gw : ∀ s : Fut w1, s.to.cell? ⟨Wb, 0, none⟩ = some (.slice a len cap) := Fut.cell ((hb1.cell (World.block_lt_of_cell? _ _ hW)).trans hW)
  go_enter Try.func108, Try.ntmps108
  go_upto_region 1 with (fail)
  rw [← hw0, ← hw1]
  rw [hz0] at hnew
  have HNew := Lib.hid hnew
  have HB1 := Lib.hid hb1
  have HR1 := Lib.hid (hR.below hb1)
  have HRl := Lib.hid hR.1
  have hlt1 : w.heap.size + 1 < w1.heap.size := (Array.getElem?_eq_some_iff.1 hnew).1
  have hI0 : decide ((I : Int) < 0) = false := decide_eq_false (by omega)
  have hJ0 : decide ((J : Int) < 0) = false := decide_eq_false (by omega)
  have hI1 : (0 : Int) ≤ (I : Int) := by omega
  have hJ1 : (0 : Int) ≤ (J : Int) := by omega
  have fin0 := Lib.hid (fun (w2 : World) (hb : Below w1.heap.size w1 w2) => (show (w2.heap[w.heap.size + 1]? = some (.cells #[.int .i64 0, .int .i64 0, .string ⟨#[]⟩] 38 (0, 0)) ∧ (w2.cell? ⟨w.heap.size + 1, 0, none⟩ = some (.int .i64 0) ∧ w2.cell? ⟨w.heap.size + 1, 1, none⟩ = some (.int .i64 0) ∧ w2.cell? ⟨w.heap.size + 1, 2, none⟩ = some (.string ⟨#[]⟩)) ∧ (∀ j, w2.frozen? ⟨w.heap.size + 1, j, none⟩ = false) ∧ w.heap.size + 1 < w2.heap.size) from by
    have h := (hb.block (w.heap.size + 1) hlt1).trans HNew.out
    exact ⟨h, ⟨cell_of_row _ _ 0 _ _ _ h, cell_of_row _ _ 1 _ _ _ h, cell_of_row _ _ 2 _ _ _ h⟩, fun j => frozen_of_row _ _ j _ _ h, (Array.getElem?_eq_some_iff.1 h).1⟩))
  clear hw0 hw1 hb0 hb01 hb1 hc0 hnew hz0 hR hW
  by_cases hI : I < len
  · have hIi : decide ((len : Int) ≤ (I : Int)) = false := decide_eq_false (by omega)
    have hIn : decide (len ≤ I) = false := decide_eq_false (by omega)
    have hIj : (I : Int) < (len : Int) := by omega
    rcases HR1.out.2.2 with h0 | ⟨b, off, rfl, hbl, hc⟩
    · omega
    obtain ⟨ra, rl, rc, g0, hv⟩ := hc I hI
    have g0' := Fut.cell g0
    have hrl := hv.2.1
    have hvl := hv.1
    by_cases hJ : J < rl
    · have hJi : decide ((rl : Int) ≤ (J : Int)) = false := decide_eq_false (by omega)
      have hJn : decide (rl ≤ J) = false := decide_eq_false (by omega)
      have hJj : (J : Int) < (rl : Int) := by omega
      obtain ⟨b2, o2, rfl, hb2, v0, v1, v2⟩ := hv.at (Below.refl _ _) hJ
      have HF := Lib.hid (show colF R (I : Int) (J : Int) = if formedV ((R.getD I []).getD J noV) = true then ((R.getD I []).getD J noV, 0) else (noV, 1) by
        unfold colF
        simp only [Int.toNat_natCast]
        by_cases hf : formedV ((R.getD I []).getD J noV) = true
        · rw [if_pos hf, if_pos ⟨hI1, hJ1, by have := HRl.out; omega, by omega, hf⟩]
        · rw [if_neg hf, if_neg (fun h => hf h.2.2.2.2)])
      generalize (R.getD I []).getD J noV = v at *
      obtain ⟨k, n, t⟩ := v
      simp only at v0 v1 v2
      have v0' := Fut.cell v0
      have v1' := Fut.cell v1
      have v2' := Fut.cell v2
      have HFv := Lib.hid (show formedV (k, n, t) = formedB k n t from rfl)
      clear hv hc hJ v0 v1 v2 g0 hI
      cases hf : formedB k n t with
      | false =>
        have HC2 := Lib.hid (show colF R (I : Int) (J : Int) = (noV, 1) by rw [HF.out, HFv.out, hf]; rfl)
        have HK := Lib.hid (show ∀ s : Fut w1, Calls Try.prog 139 #[.agg #[.int .i64 k, .int .i64 n, .string t]] s.to fun e w' => e = .returned (.bool false) ∧ Below s.to.heap.size s.to w' from fun s => (rformed_any k n t s.to).mono (fun e w' ⟨h1, h2⟩ => ⟨by rw [h1, hf], by rw [← h2]; exact bel0 _ (Below.refl _ _)⟩))
        clear hf
        refine wp_region_fut (by kernel_rfl) (by kernel_rfl) ?_
        try dsimp only
        repeat (go_big_quiet_step ((go_at_call 139; exact calls_fut (HK.out _))))
        refine wpQuiet_nil ?_
        rintro _ ⟨s, rfl⟩
        have hbw := s.bel
        generalize s.to = w2 at *
        clear s
        obtain ⟨hn2, ⟨d0, d1, d2⟩, fz2, hlt2⟩ := fin0.out w2 hbw
        have HN2 := Lib.hid hn2
        have HB2 := Lib.hid (bt HB1.out hbw)
        clear hn2 hbw g5 g6 gw g0' v0' v1' v2'
        go_wp2
        have HC := vbox3 HN2.out (.int .i64 0) (.int .i64 0) (.string ⟨#[]⟩)
        have HBf := Lib.hid (show Below w.heap.size w (((w2.setCell ⟨w.heap.size + 1, 0, none⟩ (.int .i64 0)).setCell ⟨w.heap.size + 1, 1, none⟩ (.int .i64 0)).setCell ⟨w.heap.size + 1, 2, none⟩ (.string ⟨#[]⟩)) from ((HB2.out.setCell (Nat.le_succ _) _).setCell (Nat.le_succ _) _).setCell (Nat.le_succ _) _)
        generalize ((w2.setCell ⟨w.heap.size + 1, 0, none⟩ (.int .i64 0)).setCell ⟨w.heap.size + 1, 1, none⟩ (.int .i64 0)).setCell ⟨w.heap.size + 1, 2, none⟩ (.string ⟨#[]⟩) = w9 at *
        (try simp only [Exit.inBlock, Exit.then])
        refine bodyPost_ret (results_val rfl _ _ (w.heap.size + 1) noV rfl HC) rfl ?_
        rw [HC2.out]
        exact ⟨rfl, HBf.out⟩
      | true =>
        have HC2 := Lib.hid (show colF R (I : Int) (J : Int) = ((k, n, t), 0) by rw [HF.out, HFv.out, hf]; rfl)
        have HK := Lib.hid (show ∀ s : Fut w1, Calls Try.prog 139 #[.agg #[.int .i64 k, .int .i64 n, .string t]] s.to fun e w' => e = .returned (.bool true) ∧ Below s.to.heap.size s.to w' from fun s => (rformed_any k n t s.to).mono (fun e w' ⟨h1, h2⟩ => ⟨by rw [h1, hf], by rw [← h2]; exact bel0 _ (Below.refl _ _)⟩))
        clear hf
        refine wp_region_fut (by kernel_rfl) (by kernel_rfl) ?_
        try dsimp only
        repeat (go_big_quiet_step ((go_at_call 139; exact calls_fut (HK.out _))))
        refine wpQuiet_nil ?_
        rintro _ ⟨s, rfl⟩
        have hbw := s.bel
        have e5 := Fut.cell (g5 s)
        have e6 := Fut.cell (g6 s)
        have ew := Fut.cell (gw s)
        have e0 := Fut.cell (g0' s)
        have f0 := Fut.cell (v0' s)
        have f1 := Fut.cell (v1' s)
        have f2 := Fut.cell (v2' s)
        clear g5 g6 gw g0' v0' v1' v2'
        generalize s.to = w2 at *
        clear s
        have HBw := Lib.hid hbw
        clear hbw
        go_wp2_with fail
        refine wp_region_fut_tail 12 (by kernel_rfl) (by kernel_rfl) ?_
        simp only [List.take_succ_cons, List.take_zero, List.drop_succ_cons, List.drop_zero]
        repeat (go_big_quiet_step (fail))
        refine wpQuiet_nil ?_
        intro s
        have hbx := s.bel
        generalize s.to = w3 at *
        have hbw := bt HBw.out hbx
        clear s hbx e5 e6 ew e0 f0 f1 f2
        obtain ⟨hn2, ⟨d0, d1, d2⟩, fz2, hlt2⟩ := fin0.out w3 hbw
        have HC := vbox3 hn2 (.int .i64 k) (.int .i64 n) (.string t)
        have HBf := Lib.hid (show Below w.heap.size w (((w3.setCell ⟨w.heap.size + 1, 0, none⟩ (.int .i64 k)).setCell ⟨w.heap.size + 1, 1, none⟩ (.int .i64 n)).setCell ⟨w.heap.size + 1, 2, none⟩ (.string t)) from (((bt HB1.out hbw).setCell (Nat.le_succ _) _).setCell (Nat.le_succ _) _).setCell (Nat.le_succ _) _)
        have HCh := Lib.hid HC
        clear hn2 hbw HC
        go_wp2
        have HC := HCh.out
        generalize ((w3.setCell ⟨w.heap.size + 1, 0, none⟩ (.int .i64 k)).setCell ⟨w.heap.size + 1, 1, none⟩ (.int .i64 n)).setCell ⟨w.heap.size + 1, 2, none⟩ (.string t) = w9 at *
        (try simp only [Exit.inBlock, Exit.then])
        refine bodyPost_ret (results_val rfl _ _ (w.heap.size + 1) (k, n, t) rfl HC) rfl ?_
        rw [HC2.out]
        exact ⟨rfl, HBf.out⟩
    · have hJi : (rl : Int) ≤ (J : Int) := by omega
      have hJn : decide (rl ≤ J) = true := decide_eq_true (by omega)
      have HC2 := Lib.hid (show colF R (I : Int) (J : Int) = (noV, 1) by
        unfold colF
        rw [if_neg]
        rintro ⟨_, _, _, h, _⟩
        simp at h
        simp at hvl
        omega)
      clear hv hc hJ g0 hI
      refine wp_region_fut (by kernel_rfl) (by kernel_rfl) ?_
      try dsimp only
      repeat (go_big_quiet_step (fail))
      refine wpQuiet_nil ?_
      rintro _ ⟨s, rfl⟩
      have hbw := s.bel
      generalize s.to = w2 at *
      clear s
      obtain ⟨hn2, ⟨d0, d1, d2⟩, fz2, hlt2⟩ := fin0.out w2 hbw
      have HN2 := Lib.hid hn2
      have HB2 := Lib.hid (bt HB1.out hbw)
      clear hn2 hbw g5 g6 gw
      go_wp2
      have HC := vbox3 HN2.out (.int .i64 0) (.int .i64 0) (.string ⟨#[]⟩)
      have HBf := Lib.hid (show Below w.heap.size w (((w2.setCell ⟨w.heap.size + 1, 0, none⟩ (.int .i64 0)).setCell ⟨w.heap.size + 1, 1, none⟩ (.int .i64 0)).setCell ⟨w.heap.size + 1, 2, none⟩ (.string ⟨#[]⟩)) from ((HB2.out.setCell (Nat.le_succ _) _).setCell (Nat.le_succ _) _).setCell (Nat.le_succ _) _)
      generalize ((w2.setCell ⟨w.heap.size + 1, 0, none⟩ (.int .i64 0)).setCell ⟨w.heap.size + 1, 1, none⟩ (.int .i64 0)).setCell ⟨w.heap.size + 1, 2, none⟩ (.string ⟨#[]⟩) = w9 at *
      (try simp only [Exit.inBlock, Exit.then])
      refine bodyPost_ret (results_val rfl _ _ (w.heap.size + 1) noV rfl HC) rfl ?_
      rw [HC2.out]
      exact ⟨rfl, HBf.out⟩
  · have hIi : (len : Int) ≤ (I : Int) := by omega
    have hIn : decide (len ≤ I) = true := decide_eq_true (by omega)
    have HC2 := Lib.hid (show colF R (I : Int) (J : Int) = (noV, 1) by
      unfold colF
      rw [if_neg]
      rintro ⟨_, _, h, _⟩
      rw [HRl.out] at h
      simp at h
      omega)
    clear hI
    refine wp_region_fut (by kernel_rfl) (by kernel_rfl) ?_
    try dsimp only
    repeat (go_big_quiet_step (fail))
    refine wpQuiet_nil ?_
    rintro _ ⟨s, rfl⟩
    have hbw := s.bel
    generalize s.to = w2 at *
    clear s
    obtain ⟨hn2, ⟨d0, d1, d2⟩, fz2, hlt2⟩ := fin0.out w2 hbw
    have HN2 := Lib.hid hn2
    have HB2 := Lib.hid (bt HB1.out hbw)
    clear hn2 hbw g5 g6 gw
    go_wp2
    have HC := vbox3 HN2.out (.int .i64 0) (.int .i64 0) (.string ⟨#[]⟩)
    have HBf := Lib.hid (show Below w.heap.size w (((w2.setCell ⟨w.heap.size + 1, 0, none⟩ (.int .i64 0)).setCell ⟨w.heap.size + 1, 1, none⟩ (.int .i64 0)).setCell ⟨w.heap.size + 1, 2, none⟩ (.string ⟨#[]⟩)) from ((HB2.out.setCell (Nat.le_succ _) _).setCell (Nat.le_succ _) _).setCell (Nat.le_succ _) _)
    generalize ((w2.setCell ⟨w.heap.size + 1, 0, none⟩ (.int .i64 0)).setCell ⟨w.heap.size + 1, 1, none⟩ (.int .i64 0)).setCell ⟨w.heap.size + 1, 2, none⟩ (.string ⟨#[]⟩) = w9 at *
    (try simp only [Exit.inBlock, Exit.then])
    refine bodyPost_ret (results_val rfl _ _ (w.heap.size + 1) noV rfl HC) rfl ?_
    rw [HC2.out]
    exact ⟨rfl, HBf.out⟩
theorem rcolumn_any (Wb : Nat) (a : Option Addr) (len cap : Nat) (R : List (List Val)) (I J : Nat) (w : World) (hR : IsRR w a len R) (hi2 : (I : Int) ≤ 9223372036854775807) (hj2 : (J : Int) ≤ 9223372036854775807) (hW : w.cell? ⟨Wb, 0, none⟩ = some (.slice a len cap)) :
    Calls Try.prog 108 #[.pointer (some ⟨Wb, 0, none⟩), .agg #[.int .i64 0, .string ⟨#[]⟩, .int .i64 0, .int .i64 0, .string ⟨#[]⟩, .int .i64 (I : Int), .int .i64 (J : Int), .slice none 0 0]] w (ColP w (colF R I J)) :=
  rcolumnK_any 0 (.slice none 0 0) Wb a len cap R I J w hR hi2 hj2 hW
end Go.Proofs.Ytafhgilikcablaa
