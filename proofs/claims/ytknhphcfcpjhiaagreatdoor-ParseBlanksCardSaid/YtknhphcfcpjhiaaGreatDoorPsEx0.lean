/- The package's reader of statements: an expression. -/
import Derived.Test.YtknhphcfcpjhiaaGreatDoorPsNm
namespace Go.Proofs.YtknhphcfcpjhiaaGreatDoor
open Go.RowKit
set_option linter.unusedVariables false
set_option linter.unusedSimpArgs false
set_option maxRecDepth 100000
theorem wr_s (n : Nat) (h : n ≤ 100000) : wrap64 ((n : Int) + 1) = (n : Int) + 1 ∧ IntKind.i64.wrap ((n : Int) + 1) = (n : Int) + 1 ∧ wrap64 ((n : Int) + 1 - 1) = (n : Int) ∧ IntKind.i64.wrap ((n : Int) + 1 - 1) = (n : Int) := by
  refine ⟨?_, ?_, ?_, ?_⟩
  · unfold wrap64; omega
  · rw [IntKind.wrap_i64]; omega
  · unfold wrap64; omega
  · rw [IntKind.wrap_i64]; omega
set_option maxHeartbeats 6400000 in
theorem pname_any2 (N : Nat) (w : World) (wa : Option Addr) (wn wc : Nat) (ws : List Wd) (s : PS) (h : RdS N w wa wn wc ws s) (hz : WsOk ws) :
    Calls Tryz.prog 52 #[.pointer (some ⟨N, 0, none⟩)] w (PsR N w wa wn wc ws (.string (nameR ws s).1) (nameR ws s).2) := by
  obtain ⟨c0, c1, c2, fz⟩ := h.cells
  obtain ⟨hl, hn, hc⟩ := h.words
  have hN := h.low
  have HS := Lib.hid h
  have f0 := Fut.cell c0
  have f1 := Fut.cell c1
  have f2 := Fut.cell c2
  have hnot : ¬ (s.2 = 0 ∧ s.1 < ws.length ∧ (wdAt ws s.1).1 = 1 ∧ nmB (bs (wdAt ws s.1).2.1) = true) → nameR ws s = (eB, fl 3 s) := fun h => by unfold nameR; rw [if_neg h]
  clear fz
  by_cases hm : s.2 = 0
  rotate_left
  · have HR := Lib.hid (show nameR ws s = (eB, fl 3 s) from hnot (fun h => hm h.1))
    have ht1 : (s.2 != 0) = true := by simp [hm]
    have ht0 : (s.2 == 0) = false := by simp [hm]
    clear hl hc h c0 c1 c2 hnot hm
    go_enter Tryz.func52, Tryz.ntmps52
    go_upto_region 1 with (fail)
    refine wp_region_fut (by kernel_rfl) (by kernel_rfl) ?_
    repeat (go_big_quiet_step (fail))
    refine wpQuiet_nil ?_
    rintro _ ⟨s2, rfl⟩
    have H2 := Lib.hid (HS.out.below s2.bel)
    have HT := Lib.hid (RTo.of_below s2.bel (Nat.le_of_lt hN))
    generalize s2.to = w2 at *
    clear s2 f0 f1 f2
    have HF := Lib.hid (fail_any N w2 _ wn wc ws s H2.out 3 (by unfold InR; omega))
    go_wp2_with fail
    refine HF.out.mono ?_
    rintro e w3 ⟨rfl, h1, h2⟩
    have HS3 := Lib.hid h1
    have HT3 := Lib.hid (HT.out.trans h2)
    clear h1 h2
    go_wp2
    go_ret
    rw [HR.out]
    exact ⟨rfl, HS3.out, HT3.out⟩
  have ht1 : (s.2 != 0) = false := by simp [hm]
  have ht0 : (s.2 == 0) = true := by simp [hm]
  by_cases hp : s.1 < wn
  rotate_left
  · have he : s.1 = wn := by have := h.pos; omega
    have HR := Lib.hid (show nameR ws s = (eB, fl 3 s) from hnot (fun h => by have := h.2.1; omega))
    have ht2 : ((s.1 : Int) == (wn : Int)) = true := by simp [he]
    clear hl hc h c0 c1 c2 hnot
    go_enter Tryz.func52, Tryz.ntmps52
    go_upto_region 1 with (fail)
    refine wp_region_fut (by kernel_rfl) (by kernel_rfl) ?_
    repeat (go_big_quiet_step (fail))
    refine wpQuiet_nil ?_
    rintro _ ⟨s2, rfl⟩
    have H2 := Lib.hid (HS.out.below s2.bel)
    have HT := Lib.hid (RTo.of_below s2.bel (Nat.le_of_lt hN))
    generalize s2.to = w2 at *
    clear s2 f0 f1 f2
    have HF := Lib.hid (fail_any N w2 _ wn wc ws s H2.out 3 (by unfold InR; omega))
    go_wp2_with fail
    refine HF.out.mono ?_
    rintro e w3 ⟨rfl, h1, h2⟩
    have HS3 := Lib.hid h1
    have HT3 := Lib.hid (HT.out.trans h2)
    clear h1 h2
    go_wp2
    go_ret
    rw [HR.out]
    exact ⟨rfl, HS3.out, HT3.out⟩
  obtain ⟨b, off, rfl, hbN, hb, hw⟩ := hc.resolve_left (by omega)
  obtain ⟨q0, q1, q2⟩ := hw s.1 hp
  have ht2 : ((s.1 : Int) == (wn : Int)) = false := by simp; omega
  have hp0 : (0 : Int) ≤ (s.1 : Int) := by omega
  have hp1 : (s.1 : Int) < (wn : Int) := by omega
  obtain ⟨k, hk⟩ : ∃ k, k = (wdAt ws s.1).1 := ⟨_, rfl⟩
  obtain ⟨x, hx⟩ : ∃ x, x = bs (wdAt ws s.1).2.1 := ⟨_, rfl⟩
  obtain ⟨nn, hnn⟩ : ∃ nn, nn = (wdAt ws s.1).2.2 := ⟨_, rfl⟩
  rw [← hk] at q0
  rw [← hx] at q1
  rw [← hnn] at q2
  have g0 := Fut.cell q0
  have g1 := Fut.cell q1
  have g2 := Fut.cell q2
  have HQb := Lib.hid (And.intro hbN hb)
  have HQ := Lib.hid (show ∀ W, RTo N w W → W.cell? ⟨b, off + s.1 * 3 + 1, none⟩ = some (.string x) ∧ W.cell? ⟨b, off + s.1 * 3 + 2, none⟩ = some (.int .i64 nn) ∧ b < W.heap.size from fun W t => ⟨(World.cell?_of_block (t.block b hb (by omega))).trans q1, (World.cell?_of_block (t.block b hb (by omega))).trans q2, Nat.lt_of_lt_of_le hb t.size⟩)
  have HPn := Lib.hid hp
  have HNm := Lib.hid (show ∀ W : World, Calls Tryz.prog 62 #[.string x] W fun e w' => e = .returned (.bool (nmB x)) ∧ Below W.heap.size W w' from fun W => name_any x W (by rw [hx]; have := (hz s.1).1; simp [bs, ByteArray.size]; omega))
  by_cases hkk : k = 1
  rotate_left
  · have HR := Lib.hid (show nameR ws s = (eB, fl 3 s) from hnot (fun h => hkk (by rw [hk]; exact h.2.2.1)))
    have ht3 : (k != 1) = true := by simp [hkk]
    have ht4 : (k == 1) = false := by simp [hkk]
    clear hk hx hnn hw hc hl h c0 c1 c2 q0 q1 q2 hnot hz hbN hb
    go_enter Tryz.func52, Tryz.ntmps52
    go_upto_region 1 with (fail)
    refine wp_region_fut (by kernel_rfl) (by kernel_rfl) ?_
    repeat (go_big_quiet_step (fail))
    refine wpQuiet_nil ?_
    rintro _ ⟨s2, rfl⟩
    have H2 := Lib.hid (HS.out.below s2.bel)
    have HT := Lib.hid (RTo.of_below s2.bel (Nat.le_of_lt hN))
    generalize s2.to = w2 at *
    clear s2 f0 f1 f2 g0 g1 g2
    have HF := Lib.hid (fail_any N w2 _ wn wc ws s H2.out 3 (by unfold InR; omega))
    go_wp2_with fail
    refine HF.out.mono ?_
    rintro e w3 ⟨rfl, h1, h2⟩
    have HS3 := Lib.hid h1
    have HT3 := Lib.hid (HT.out.trans h2)
    clear h1 h2
    go_wp2
    go_ret
    rw [HR.out]
    exact ⟨rfl, HS3.out, HT3.out⟩
  have ht3 : (k != 1) = false := by simp [hkk]
  have ht4 : (k == 1) = true := by simp [hkk]
  cases hnb : nmB x with
  | false =>
    have HR := Lib.hid (show nameR ws s = (eB, fl 3 s) from hnot (fun h => by have := h.2.2.2; rw [← hx, hnb] at this; cases this))
    rw [hnb] at HNm
    clear hk hx hnn hw hc hl h c0 c1 c2 q0 q1 q2 hnot hz hbN hb
    go_enter Tryz.func52, Tryz.ntmps52
    go_upto_region 1 with (fail)
    refine wp_region_fut (by kernel_rfl) (by kernel_rfl) ?_
    repeat (go_big_quiet_step ((go_at_call 62; exact calls_fut (HNm.out _))))
    refine wpQuiet_nil ?_
    rintro _ ⟨s2, rfl⟩
    have H2 := Lib.hid (HS.out.below s2.bel)
    have HT := Lib.hid (RTo.of_below s2.bel (Nat.le_of_lt hN))
    generalize s2.to = w2 at *
    clear s2 f0 f1 f2 g0 g1 g2
    have HF := Lib.hid (fail_any N w2 _ wn wc ws s H2.out 3 (by unfold InR; omega))
    go_wp2_with fail
    refine HF.out.mono ?_
    rintro e w3 ⟨rfl, h1, h2⟩
    have HS3 := Lib.hid h1
    have HT3 := Lib.hid (HT.out.trans h2)
    clear h1 h2
    go_wp2
    go_ret
    rw [HR.out]
    exact ⟨rfl, HS3.out, HT3.out⟩
  | true =>
  rw [hnb] at HNm
  have HR := Lib.hid (show nameR ws s = (x, (s.1 + 1, s.2)) by
    unfold nameR
    rw [if_pos (show s.2 = 0 ∧ s.1 < ws.length ∧ (wdAt ws s.1).1 = 1 ∧ nmB (bs (wdAt ws s.1).2.1) = true from ⟨hm, by omega, by rw [← hk]; exact hkk, by rw [← hx]; exact hnb⟩), ← hx])
  obtain ⟨hw1, hw2, hw3, hw4⟩ := wr_s s.1 (by omega)
  clear hk hx hnn hw hc hl h c0 c1 c2 q0 q1 q2 hnot hz hbN hb
  go_enter Tryz.func52, Tryz.ntmps52
  go_upto_region 1 with (fail)
  refine wp_region_fut (by kernel_rfl) (by kernel_rfl) ?_
  repeat (go_big_quiet_step ((go_at_call 62; exact calls_fut (HNm.out _))))
  refine wpQuiet_nil ?_
  rintro _ ⟨s2, rfl⟩
  have H2 := Lib.hid (HS.out.below s2.bel)
  have HT := Lib.hid (RTo.of_below s2.bel (Nat.le_of_lt hN))
  generalize s2.to = w2 at *
  clear s2 f0 f1 f2 g0 g1 g2
  obtain ⟨c0, c1, c2, fz⟩ := H2.out.cells
  have hN2 := H2.out.low
  go_upto_region 5 with (fail)
  have H3 := Lib.hid (H2.out.adv (p := s.1 + 1) HPn.out ((s.1 : Int) + 1) (by omega))
  have HT3 := Lib.hid (HT.out.setN 1 (.int .i64 ((s.1 : Int) + 1)))
  generalize (w2.setCell ⟨N, 1, none⟩ (.int .i64 ((s.1 : Int) + 1))) = w3 at *
  clear c0 c1 c2 fz hN2
  obtain ⟨c0, c1, -, -⟩ := H3.out.cells
  have c1 : w3.cell? ⟨N, 1, none⟩ = some (.int .i64 ((s.1 : Int) + 1)) := by rw [c1]; congr 2
  obtain ⟨q1, q2, qN⟩ := HQ.out w3 HT3.out
  have hN3 := H3.out.low
  have f0 := Fut.cell c0
  have f1 := Fut.cell c1
  have f3 := Fut.cell q1
  have f4 := Fut.cell q2
  clear c0 c1 q1 q2
  refine wp_region_fut (by kernel_rfl) (by kernel_rfl) ?_
  repeat (go_big_quiet_step (fail))
  refine wpQuiet_nil ?_
  rintro _ ⟨s3, rfl⟩
  have H4 := Lib.hid (H3.out.below s3.bel)
  have HT4 := Lib.hid (HT3.out.trans (RTo.of_below s3.bel (Nat.le_of_lt hN3)))
  generalize s3.to = w4 at *
  clear s3 f0 f1 f3 f4
  go_wp2
  go_ret
  rw [HR.out]
  exact ⟨rfl, H4.out, HT4.out⟩
set_option maxHeartbeats 6400000 in
theorem pnumber_any (N : Nat) (w : World) (wa : Option Addr) (wn wc : Nat) (ws : List Wd) (s : PS) (h : RdS N w wa wn wc ws s) (hz : WsOk ws) :
    Calls Tryz.prog 112 #[.pointer (some ⟨N, 0, none⟩)] w (PsR N w wa wn wc ws (.int .i64 (numR ws s).1) (numR ws s).2) := by
  obtain ⟨c0, c1, c2, fz⟩ := h.cells
  obtain ⟨hl, hn, hc⟩ := h.words
  have hN := h.low
  have HS := Lib.hid h
  have f0 := Fut.cell c0
  have f1 := Fut.cell c1
  have f2 := Fut.cell c2
  have hnot : ¬ (s.2 = 0 ∧ s.1 < ws.length ∧ (wdAt ws s.1).1 = 2) → numR ws s = (0, fl 3 s) := fun h => by unfold numR; rw [if_neg h]
  clear fz
  by_cases hm : s.2 = 0
  rotate_left
  · have HR := Lib.hid (show numR ws s = (0, fl 3 s) from hnot (fun h => hm h.1))
    have ht1 : (s.2 != 0) = true := by simp [hm]
    have ht0 : (s.2 == 0) = false := by simp [hm]
    clear hl hc h c0 c1 c2 hnot hm
    go_enter Tryz.func112, Tryz.ntmps112
    go_upto_region 1 with (fail)
    refine wp_region_fut (by kernel_rfl) (by kernel_rfl) ?_
    repeat (go_big_quiet_step (fail))
    refine wpQuiet_nil ?_
    rintro _ ⟨s2, rfl⟩
    have H2 := Lib.hid (HS.out.below s2.bel)
    have HT := Lib.hid (RTo.of_below s2.bel (Nat.le_of_lt hN))
    generalize s2.to = w2 at *
    clear s2 f0 f1 f2
    have HF := Lib.hid (fail_any N w2 _ wn wc ws s H2.out 3 (by unfold InR; omega))
    go_wp2_with fail
    refine HF.out.mono ?_
    rintro e w3 ⟨rfl, h1, h2⟩
    have HS3 := Lib.hid h1
    have HT3 := Lib.hid (HT.out.trans h2)
    clear h1 h2
    go_wp2
    go_ret
    rw [HR.out]
    exact ⟨rfl, HS3.out, HT3.out⟩
  have ht1 : (s.2 != 0) = false := by simp [hm]
  have ht0 : (s.2 == 0) = true := by simp [hm]
  by_cases hp : s.1 < wn
  rotate_left
  · have he : s.1 = wn := by have := h.pos; omega
    have HR := Lib.hid (show numR ws s = (0, fl 3 s) from hnot (fun h => by have := h.2.1; omega))
    have ht2 : ((s.1 : Int) == (wn : Int)) = true := by simp [he]
    clear hl hc h c0 c1 c2 hnot
    go_enter Tryz.func112, Tryz.ntmps112
    go_upto_region 1 with (fail)
    refine wp_region_fut (by kernel_rfl) (by kernel_rfl) ?_
    repeat (go_big_quiet_step (fail))
    refine wpQuiet_nil ?_
    rintro _ ⟨s2, rfl⟩
    have H2 := Lib.hid (HS.out.below s2.bel)
    have HT := Lib.hid (RTo.of_below s2.bel (Nat.le_of_lt hN))
    generalize s2.to = w2 at *
    clear s2 f0 f1 f2
    have HF := Lib.hid (fail_any N w2 _ wn wc ws s H2.out 3 (by unfold InR; omega))
    go_wp2_with fail
    refine HF.out.mono ?_
    rintro e w3 ⟨rfl, h1, h2⟩
    have HS3 := Lib.hid h1
    have HT3 := Lib.hid (HT.out.trans h2)
    clear h1 h2
    go_wp2
    go_ret
    rw [HR.out]
    exact ⟨rfl, HS3.out, HT3.out⟩
  obtain ⟨b, off, rfl, hbN, hb, hw⟩ := hc.resolve_left (by omega)
  obtain ⟨q0, q1, q2⟩ := hw s.1 hp
  have ht2 : ((s.1 : Int) == (wn : Int)) = false := by simp; omega
  have hp0 : (0 : Int) ≤ (s.1 : Int) := by omega
  have hp1 : (s.1 : Int) < (wn : Int) := by omega
  obtain ⟨k, hk⟩ : ∃ k, k = (wdAt ws s.1).1 := ⟨_, rfl⟩
  obtain ⟨x, hx⟩ : ∃ x, x = bs (wdAt ws s.1).2.1 := ⟨_, rfl⟩
  obtain ⟨nn, hnn⟩ : ∃ nn, nn = (wdAt ws s.1).2.2 := ⟨_, rfl⟩
  rw [← hk] at q0
  rw [← hx] at q1
  rw [← hnn] at q2
  have g0 := Fut.cell q0
  have g1 := Fut.cell q1
  have g2 := Fut.cell q2
  have HQb := Lib.hid (And.intro hbN hb)
  have HQ := Lib.hid (show ∀ W, RTo N w W → W.cell? ⟨b, off + s.1 * 3 + 1, none⟩ = some (.string x) ∧ W.cell? ⟨b, off + s.1 * 3 + 2, none⟩ = some (.int .i64 nn) ∧ b < W.heap.size from fun W t => ⟨(World.cell?_of_block (t.block b hb (by omega))).trans q1, (World.cell?_of_block (t.block b hb (by omega))).trans q2, Nat.lt_of_lt_of_le hb t.size⟩)
  have HPn := Lib.hid hp
  by_cases hkk : k = 2
  rotate_left
  · have HR := Lib.hid (show numR ws s = (0, fl 3 s) from hnot (fun h => hkk (by rw [hk]; exact h.2.2)))
    have ht3 : (k != 2) = true := by simp [hkk]
    have ht4 : (k == 2) = false := by simp [hkk]
    clear hk hx hnn hw hc hl h c0 c1 c2 q0 q1 q2 hnot hz hbN hb
    go_enter Tryz.func112, Tryz.ntmps112
    go_upto_region 1 with (fail)
    refine wp_region_fut (by kernel_rfl) (by kernel_rfl) ?_
    repeat (go_big_quiet_step (fail))
    refine wpQuiet_nil ?_
    rintro _ ⟨s2, rfl⟩
    have H2 := Lib.hid (HS.out.below s2.bel)
    have HT := Lib.hid (RTo.of_below s2.bel (Nat.le_of_lt hN))
    generalize s2.to = w2 at *
    clear s2 f0 f1 f2 g0 g1 g2
    have HF := Lib.hid (fail_any N w2 _ wn wc ws s H2.out 3 (by unfold InR; omega))
    go_wp2_with fail
    refine HF.out.mono ?_
    rintro e w3 ⟨rfl, h1, h2⟩
    have HS3 := Lib.hid h1
    have HT3 := Lib.hid (HT.out.trans h2)
    clear h1 h2
    go_wp2
    go_ret
    rw [HR.out]
    exact ⟨rfl, HS3.out, HT3.out⟩
  have ht3 : (k != 2) = false := by simp [hkk]
  have ht4 : (k == 2) = true := by simp [hkk]
  have HR := Lib.hid (show numR ws s = (nn, (s.1 + 1, s.2)) by
    unfold numR
    rw [if_pos (show s.2 = 0 ∧ s.1 < ws.length ∧ (wdAt ws s.1).1 = 2 from ⟨hm, by omega, by rw [← hk]; exact hkk⟩), ← hnn])
  obtain ⟨hw1, hw2, hw3, hw4⟩ := wr_s s.1 (by omega)
  clear hk hx hnn hw hc hl h c0 c1 c2 q0 q1 q2 hnot hz hbN hb
  go_enter Tryz.func112, Tryz.ntmps112
  go_upto_region 1 with (fail)
  refine wp_region_fut (by kernel_rfl) (by kernel_rfl) ?_
  repeat (go_big_quiet_step (fail))
  refine wpQuiet_nil ?_
  rintro _ ⟨s2, rfl⟩
  have H2 := Lib.hid (HS.out.below s2.bel)
  have HT := Lib.hid (RTo.of_below s2.bel (Nat.le_of_lt hN))
  generalize s2.to = w2 at *
  clear s2 f0 f1 f2 g0 g1 g2
  obtain ⟨c0, c1, c2, fz⟩ := H2.out.cells
  have hN2 := H2.out.low
  go_upto_region 5 with (fail)
  have H3 := Lib.hid (H2.out.adv (p := s.1 + 1) HPn.out ((s.1 : Int) + 1) (by omega))
  have HT3 := Lib.hid (HT.out.setN 1 (.int .i64 ((s.1 : Int) + 1)))
  generalize (w2.setCell ⟨N, 1, none⟩ (.int .i64 ((s.1 : Int) + 1))) = w3 at *
  clear c0 c1 c2 fz hN2
  obtain ⟨c0, c1, -, -⟩ := H3.out.cells
  have c1 : w3.cell? ⟨N, 1, none⟩ = some (.int .i64 ((s.1 : Int) + 1)) := by rw [c1]; congr 2
  obtain ⟨q1, q2, qN⟩ := HQ.out w3 HT3.out
  have hN3 := H3.out.low
  have f0 := Fut.cell c0
  have f1 := Fut.cell c1
  have f3 := Fut.cell q1
  have f4 := Fut.cell q2
  clear c0 c1 q1 q2
  refine wp_region_fut (by kernel_rfl) (by kernel_rfl) ?_
  repeat (go_big_quiet_step (fail))
  refine wpQuiet_nil ?_
  rintro _ ⟨s3, rfl⟩
  have H4 := Lib.hid (H3.out.below s3.bel)
  have HT4 := Lib.hid (HT3.out.trans (RTo.of_below s3.bel (Nat.le_of_lt hN3)))
  generalize s3.to = w4 at *
  clear s3 f0 f1 f3 f4
  go_wp2
  go_ret
  rw [HR.out]
  exact ⟨rfl, H4.out, HT4.out⟩
end Go.Proofs.YtknhphcfcpjhiaaGreatDoor
namespace Go.Proofs.YtknhphcfcpjhiaaGreatDoor
open Go.RowKit
set_option linter.unusedVariables false
set_option linter.unusedSimpArgs false
set_option maxRecDepth 100000
/-- the words from a place on -/
theorem WsB.sub {N : Nat} {w : World} {b off n : Nat} {ws : List Wd} (h : WsB N w (some ⟨b, off, none⟩) n ws) {k : Nat} (hk : k ≤ n) : WsAt w (some ⟨b, off + k * 3, none⟩) (n - k) (ws.drop k) := by
  obtain ⟨h1, h2, h3⟩ := h
  refine ⟨by rw [List.length_drop]; omega, by omega, ?_⟩
  by_cases h0 : n - k = 0
  · exact .inl h0
  rcases h3 with h3 | ⟨b', off', e, -, hb, hc⟩
  · exact .inl (by omega)
  · cases e
    refine .inr ⟨b, off + k * 3, rfl, hb, fun i hi => ?_⟩
    obtain ⟨c0, c1, c2⟩ := hc (k + i) (by omega)
    have e1 : wdAt (ws.drop k) i = wdAt ws (k + i) := by
      unfold wdAt
      rw [List.getD_eq_getElem?_getD, List.getD_eq_getElem?_getD, List.getElem?_drop]
    rw [e1, show off + k * 3 + i * 3 = off + (k + i) * 3 by omega]
    exact ⟨c0, c1, c2⟩
theorem wsOk_drop {ws : List Wd} (h : WsOk ws) (k : Nat) : WsOk (ws.drop k) := fun i => by
  have e1 : wdAt (ws.drop k) i = wdAt ws (k + i) := by
    unfold wdAt
    rw [List.getD_eq_getElem?_getD, List.getD_eq_getElem?_getD, List.getElem?_drop]
  rw [e1]
  exact h _
theorem results_e1 {fn : Func} {p : Tmp} (h : fn.results = #[.cell p 82]) (tmps : Array Value) (w : World) (g : Nat) (x0 x1 x2 x3 x4 x5 x6 x7 : Value)
    (hp : tmps.getD p undef = .pointer (some ⟨g, 0, none⟩)) (hg : w.heap[g]? = some (.cells #[x0, x1, x2, x3, x4, x5, x6, x7] 82 (0, 0))) :
    (results fn tmps).run Tryz.prog w = .ok (.agg #[x0, x1, x2, x3, x4, x5, x6, x7]) w := by
  have hp' : tmps[p]?.getD undef = .pointer (some ⟨g, 0, none⟩) := by simpa using hp
  have hl := run_loadVar_row (P := Tryz.prog) w g 82 82 #[x0, x1, x2, x3, x4, x5, x6, x7] (0, 0) _ hg Tryz.underlying82 rfl (by
    have : (Tryz.prog.info? 82).map (·.size) = some 8 := by kernel_rfl
    exact this)
  simp [results, h, hp', asAddr, hl]
theorem RTo.setLe {N R : Nat} {w w' : World} (h : RTo N w w') (hN : N ≤ R) (hR : w.heap.size ≤ R) (k : Nat) (vs : List Value) : RTo N w (setLe w' R k vs) :=
  ⟨setLe_below hN vs k w' h.below, fun i hi hn => (setLe_other (by omega) vs k w').trans (h.block i hi hn)⟩
theorem RdS.setLe {N R : Nat} {w : World} {wa : Option Addr} {wn wc : Nat} {ws : List Wd} {s : PS} (h : RdS N w wa wn wc ws s) (hN : N < R) (k : Nat) (vs : List Value) : RdS N (setLe w R k vs) wa wn wc ws s :=
  ⟨(setLe_other (by omega) vs k w).trans h.rd, h.words.keep (setLe_below (Nat.le_of_lt hN) vs k w (Below.refl _ _)), h.pos, h.met⟩
/-- the taken expression lies in a box -/
def ExMid (w1 : World) (r : ET × Nat × Int) (v3 v4 v5 : Value) (wx : World) : Prop :=
  ∃ B3 sa sc, v3 = .pointer (some ⟨B3, 0, none⟩) ∧ v4 = .int .i64 (r.2.1 : Int) ∧ v5 = .int .i64 r.2.2 ∧ w1.heap.size ≤ B3 ∧ wx.heap[B3]? = some (.cells #[.int .i64 r.1.kind, .string r.1.op, .int .i64 r.1.vk, .int .i64 r.1.vn, .string r.1.vs, .string r.1.tab, .string r.1.col, .slice sa r.1.parts.length sc] 82 (0, 0)) ∧ ERg r.1 sa sc ∧ EL wx (fun b => w1.heap.size ≤ b) sa r.1.parts ∧ Below w1.heap.size w1 wx
/-- what expr answers -/
def PsE (N : Nat) (w : World) (wa : Option Addr) (wn wc : Nat) (ws : List Wd) (r : ET × PS) (e : Ending) (w' : World) : Prop := (∃ v, e = .returned v ∧ EV w' (fun b => w.heap.size ≤ b) v r.1) ∧ RdS N w' wa wn wc ws r.2 ∧ RTo N w w'
end Go.Proofs.YtknhphcfcpjhiaaGreatDoor
