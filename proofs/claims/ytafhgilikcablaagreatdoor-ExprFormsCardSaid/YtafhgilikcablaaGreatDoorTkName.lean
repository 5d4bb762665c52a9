/- The package's taker: literal, name, column. -/
import Derived.Test.YtafhgilikcablaaGreatDoorTkWt
import Derived.Test.YtafhgilikcablaaGreatDoorLxKey
namespace Go.Proofs.YtafhgilikcablaaGreatDoor
open Go.RowKit
set_option linter.unusedVariables false
set_option linter.unusedSimpArgs false
set_option maxRecDepth 100000
def NameP (A : Nat → Prop) (N : Nat) (w : World) (wa : Option Addr) (wn wc : Nat) (ws : List Wd) (v : Value) (ms : List PM) (r : ByteArray × Bool × Tk) (e : Ending) (w' : World) : Prop :=
  e = .returned (.tuple #[.string r.1, .bool r.2.1]) ∧ TSt A N w' wa wn wc ws v r.2.2 ms ∧ TTo N v v w w'
set_option maxHeartbeats 6400000 in
theorem takerName_any (A : Nat → Prop) (N : Nat) (w : World) (wa : Option Addr) (wn wc : Nat) (ws : List Wd) (v : Value) (s : Tk) (ms : List PM) (h : TSt A N w wa wn wc ws v s ms) (hz : ∀ i, (wdAt ws i).2.1.length ≤ 140737488355328) :
    Calls Tryz.prog 105 #[.pointer (some ⟨N, 0, none⟩)] w (NameP A N w wa wn wc ws v ms (nameP nmB ws s)) := by
  obtain ⟨c0, c1, -, -, fz⟩ := h.cells
  obtain ⟨hl, hn, hc⟩ := h.words
  have hN := h.low
  have HS := Lib.hid h
  have f0 := Fut.cell c0
  have f1 := Fut.cell c1
  clear fz
  by_cases hp : s.pos < wn
  rotate_left
  · have he : s.pos = wn := by have := h.pos; omega
    have HR := Lib.hid (show nameP nmB ws s = (⟨#[]⟩, false, s) by unfold nameP; rw [if_neg (fun hh => by have := hh.1; omega)])
    have ht1 : ((s.pos : Int) == (wn : Int)) = true := by simp [he]
    clear hl hc h c0 c1
    go_enter Tryz.func105, Tryz.ntmps105
    go_upto_region 1 with (fail)
    refine wp_region_fut (by kernel_rfl) (by kernel_rfl) ?_
    repeat (go_big_quiet_step (fail))
    refine wpQuiet_nil ?_
    rintro _ ⟨s2, rfl⟩
    have H2 := Lib.hid (HS.out.below s2.bel)
    have HT := Lib.hid (TTo.of_below (v := v) s2.bel (Nat.le_of_lt hN))
    generalize s2.to = w2 at *
    clear s2 f0 f1
    go_wp2
    go_ret2
    rw [HR.out]
    exact ⟨rfl, H2.out, HT.out⟩
  obtain ⟨b, off, rfl, hbN, hb, hw⟩ := hc.resolve_left (by omega)
  obtain ⟨q0, q1, -⟩ := hw s.pos hp
  have ht1 : ((s.pos : Int) == (wn : Int)) = false := by simp; omega
  have hp0 : (0 : Int) ≤ (s.pos : Int) := by omega
  have hp1 : (s.pos : Int) < (wn : Int) := by omega
  obtain ⟨k, hk⟩ : ∃ k, k = (wdAt ws s.pos).1 := ⟨_, rfl⟩
  obtain ⟨x, hx⟩ : ∃ x, x = bs (wdAt ws s.pos).2.1 := ⟨_, rfl⟩
  have HIs := Lib.hid (show nameP nmB ws s = if k = 1 ∧ nmB x = true then (x, true, adv s) else (⟨#[]⟩, false, s) by
    unfold nameP
    rw [hk, hx]
    by_cases hh : (wdAt ws s.pos).1 = 1 ∧ nmB (bs (wdAt ws s.pos).2.1) = true
    · rw [if_pos ⟨by omega, hh.1, hh.2⟩, if_pos hh]
    · rw [if_neg (fun h => hh h.2), if_neg hh])
  have HNm := Lib.hid (show ∀ W : World, Calls Tryz.prog 35 #[.string x] W fun e w' => e = .returned (.bool (nmB x)) ∧ Below W.heap.size W w' from fun W => name_any x W (by rw [hx]; have := hz s.pos; simp [bs, ByteArray.size]; omega))
  rw [← hk] at q0
  rw [← hx] at q1
  have g0 := Fut.cell q0
  have g1 := Fut.cell q1
  have HQ1 := Lib.hid (And.intro q1 hb)
  have HPn := Lib.hid hp
  clear hk hx hw hc hl h c0 c1 q0 q1 hz
  by_cases hkk : k = 1
  rotate_left
  · have ht2 : (k != 1) = true := by simp [hkk]
    go_enter Tryz.func105, Tryz.ntmps105
    go_upto_region 1 with (fail)
    refine wp_region_fut (by kernel_rfl) (by kernel_rfl) ?_
    repeat (go_big_quiet_step (fail))
    refine wpQuiet_nil ?_
    rintro _ ⟨s2, rfl⟩
    have H2 := Lib.hid (HS.out.below s2.bel)
    have HT := Lib.hid (TTo.of_below (v := v) s2.bel (Nat.le_of_lt hN))
    generalize s2.to = w2 at *
    clear s2 f0 f1 g0 g1
    go_wp2
    go_ret2
    rw [HIs.out, if_neg (fun h => hkk h.1)]
    exact ⟨rfl, H2.out, HT.out⟩
  subst hkk
  obtain ⟨nb, hnb⟩ : ∃ nb, nb = nmB x := ⟨_, rfl⟩
  rw [← hnb] at HIs HNm
  clear hnb
  cases nb with
  | false =>
    go_enter Tryz.func105, Tryz.ntmps105
    go_upto_region 1 with (fail)
    refine wp_region_fut (by kernel_rfl) (by kernel_rfl) ?_
    repeat (go_big_quiet_step ((go_at_call 35; exact calls_fut (HNm.out _))))
    refine wpQuiet_nil ?_
    rintro _ ⟨s2, rfl⟩
    have H2 := Lib.hid (HS.out.below s2.bel)
    have HT := Lib.hid (TTo.of_below (v := v) s2.bel (Nat.le_of_lt hN))
    generalize s2.to = w2 at *
    clear s2 f0 f1 g0 g1
    go_wp2
    go_ret2
    rw [HIs.out]
    exact ⟨rfl, H2.out, HT.out⟩
  | true =>
    have hw1 : wrap64 ((s.pos : Int) + 1) = (s.pos : Int) + 1 := by unfold wrap64; omega
    have hw2 : IntKind.i64.wrap ((s.pos : Int) + 1) = (s.pos : Int) + 1 := by rw [IntKind.wrap_i64]; omega
    have hw3 : wrap64 ((s.pos : Int) + 1 - 1) = (s.pos : Int) := by unfold wrap64; omega
    have hw4 : IntKind.i64.wrap ((s.pos : Int) + 1 - 1) = (s.pos : Int) := by rw [IntKind.wrap_i64]; omega
    go_enter Tryz.func105, Tryz.ntmps105
    go_upto_region 1 with (fail)
    refine wp_region_fut (by kernel_rfl) (by kernel_rfl) ?_
    repeat (go_big_quiet_step ((go_at_call 35; exact calls_fut (HNm.out _))))
    refine wpQuiet_nil ?_
    rintro _ ⟨s2, rfl⟩
    have H2 := Lib.hid (HS.out.below s2.bel)
    have HT := Lib.hid (TTo.of_below (v := v) s2.bel (Nat.le_of_lt hN))
    have HQ2 := Lib.hid (show s2.to.cell? ⟨b, off + s.pos * 3 + 1, none⟩ = some (.string x) from g1 s2)
    generalize s2.to = w2 at *
    clear s2 f0 f1 g0 g1
    obtain ⟨c0, c1, -, -, fz⟩ := H2.out.cells
    have hN2 := H2.out.low
    go_upto_region 4 with (fail)
    have H3 := Lib.hid (H2.out.adv HPn.out ((s.pos : Int) + 1) rfl)
    have HT3 := Lib.hid (HT.out.setN 1 (.int .i64 ((s.pos : Int) + 1)))
    have q3 : (w2.setCell ⟨N, 1, none⟩ (.int .i64 ((s.pos : Int) + 1))).cell? ⟨b, off + s.pos * 3 + 1, none⟩ = some (.string x) := (World.cell?_setCell_other _ _ _ _ (by intro e; have h := congrArg Addr.block e; simp only at h; omega)).trans HQ2.out
    generalize (w2.setCell ⟨N, 1, none⟩ (.int .i64 ((s.pos : Int) + 1))) = w3 at *
    clear c0 c1 fz
    obtain ⟨c0, c1, -, -, -⟩ := H3.out.cells
    have c1 : w3.cell? ⟨N, 1, none⟩ = some (.int .i64 ((s.pos : Int) + 1)) := c1
    have f0 := cellN c0
    have f1 := cellN c1
    have f3 := cellN q3
    go_quiet (fail)
    go_wp2
    go_ret2
    rw [HIs.out, if_pos (by simp)]
    exact ⟨rfl, H3.out.drewN _, HT3.out.drewN _⟩
end Go.Proofs.YtafhgilikcablaaGreatDoor
