/- The lexer's goesOn, begin: any state, any rune. -/
import Derived.Test.YtpinalpigefenaaGreatDoorLwSt
namespace Go.Proofs.YtpinalpigefenaaGreatDoor
open Go.RowKit
set_option linter.unusedVariables false
set_option linter.unusedSimpArgs false
set_option maxRecDepth 100000

theorem natInt (c k : Nat) : ((c : Int) == (k : Int)) = (c == k) := by
  rw [Bool.eq_iff_iff]
  simp only [beq_iff_eq]
  omega
theorem pair_any (s : ByteArray) (c : Nat) (w : World) : Calls Tryz.prog 264 #[.string s, .int .i32 (c : Int)] w fun e w' => e = .returned (.bool (pairL s.data.toList c)) ∧ w' = w := by
  obtain ⟨b1, h1⟩ : ∃ b, (s.toList == [60]) = b := ⟨_, rfl⟩
  obtain ⟨b2, h2⟩ : ∃ b, (s.toList == [62]) = b := ⟨_, rfl⟩
  obtain ⟨b3, h3⟩ : ∃ b, ((c : Int) == 61) = b := ⟨_, rfl⟩
  obtain ⟨b4, h4⟩ : ∃ b, ((c : Int) == 62) = b := ⟨_, rfl⟩
  have HP := Lib.hid (show pairL s.data.toList c = ((b1 && (b3 || b4)) || (b2 && b3)) by
    unfold pairL
    rw [← h1, ← h2, ← h3, ← h4, ByteArray.toList_eq, show ((c : Int) == 61) = (c == 61) from natInt c 61, show ((c : Int) == 62) = (c == 62) from natInt c 62])
  rw [HP.out]
  clear HP
  cases b1 <;> cases b2 <;> cases b3 <;> cases b4 <;> (
    go_enter Tryz.func264, Tryz.ntmps264
    go_wp2
    go_ret
    exact ⟨rfl, rfl⟩)
/-- what a reader has open -/
def curOf (s : ByteArray) (start pos : Nat) : Bs := (s.data.toList.take pos).drop start
theorem curOf_extract (s : ByteArray) (start pos : Nat) : (s.extract start pos).data.toList = curOf s start pos := by
  unfold curOf
  rw [Lib.extract_data, List.drop_take]
/-- what goesOn answers and leaves -/
def GoesP (s : ByteArray) (w : World) (N : Nat) (v : Value) (n : Nat) (xs : List Value) (md start : Nat) (o : Option Nat) (e : Ending) (w' : World) : Prop :=
  e = .returned (.bool o.isSome) ∧ LSt s w' N v n xs ((o.getD md : Nat) : Int) start ∧ Kp N w w'
theorem GoesP.stay {s : ByteArray} {w w' : World} {N : Nat} {v : Value} {n : Nat} {xs : List Value} {md start : Nat} {o : Option Nat} (h : LSt s w N v n xs md start) (ho : o.getD md = md) (hb : Below w.heap.size w w') {b : Bool} (hbo : o.isSome = b) : GoesP s w N v n xs md start o (.returned (.bool b)) w' :=
  ⟨by rw [hbo], by rw [ho]; exact h.below hb, Kp.below (Nat.le_of_lt h.low) hb⟩
theorem run_slice_text (s : ByteArray) (a b : Nat) (h1 : a ≤ b) (h2 : b ≤ s.size) (W : World) : (Instr.slice 9 (.string s) (some (.int .i64 (a : Int))) (some (.int .i64 (b : Int))) none).run Tryz.prog W = .ok (.string (s.extract a b)) W := by
  have := run_slice_string (P := Tryz.prog) W 9 s .i64 .i64 (a : Int) (b : Int) Tryz.underlying9 (by omega) (by omega) (by omega)
  simpa using this
theorem LSt.drew {s : ByteArray} {w : World} {N : Nat} {v : Value} {n : Nat} {xs : List Value} {st start : Int} (h : LSt s w N v n xs st start) (k : Nat) : LSt s (w.drewN k) N v n xs st start := ⟨h.rd, h.own⟩
theorem drewB (w : World) (k : Nat) : Below w.heap.size w (w.drewN k) := ⟨rfl, rfl, rfl, Nat.le_refl _, fun _ _ => rfl⟩
theorem LSt.stateN {s : ByteArray} {w : World} {N : Nat} {v : Value} {n : Nat} {xs : List Value} {st start : Int} (h : LSt s w N v n xs st start) (x : Int) : LSt s (w.setCell ⟨N, 2, none⟩ (.int .i64 x)) N v n xs x start ∧ Kp N w (w.setCell ⟨N, 2, none⟩ (.int .i64 x)) := ⟨h.state x, Kp.set h.rd _ _⟩
set_option maxHeartbeats 6400000 in
theorem goes_any (s : ByteArray) (w : World) (N : Nat) (v : Value) (n : Nat) (xs : List Value) (md start pos c : Nat) (h : LSt s w N v n xs md start) (hmd : md ≤ 6) (h1 : start ≤ pos) (h2 : pos ≤ s.size) :
    Calls Tryz.prog 170 #[.pointer (some ⟨N, 0, none⟩), .int .i64 (pos : Int), .int .i32 (c : Int)] w (GoesP s w N v n xs md start (goes md (curOf s start pos) c)) := by
  have HH := Lib.hid h
  have HB0 := Lib.hid (Below.refl w.heap.size w)
  rcases (show md = 0 ∨ md = 1 ∨ md = 2 ∨ md = 3 ∨ md = 4 ∨ md = 5 ∨ md = 6 by omega) with rfl | rfl | rfl | rfl | rfl | rfl | rfl
  · obtain ⟨⟨f0, f1, f2, f3⟩, fz⟩ := h.facts
    have f2 : w.cell? ⟨N, 2, none⟩ = some (.int .i64 0) := f2
    clear h
    go_enter Tryz.func170, Tryz.ntmps170
    go_wp2
    go_ret
    exact GoesP.stay HH.out rfl HB0.out rfl
  · obtain ⟨⟨f0, f1, f2, f3⟩, fz⟩ := h.facts
    have f2 : w.cell? ⟨N, 2, none⟩ = some (.int .i64 1) := f2
    have hg : ∀ b1 b2, letZ (c : Int) = b1 → digZ (c : Int) = b2 → goes 1 (curOf s start pos) c = if (b1 || b2) = true then some 1 else none := fun b1 b2 e1 e2 => by
      subst e1 e2; rfl
    have HGG := Lib.hid hg
    clear h hg
    go_enter Tryz.func170, Tryz.ntmps170
    go_wp2_with fail
    refine (letter_any _ _).mono ?_
    rintro e w1 ⟨rfl, hw⟩
    subst hw
    cases hl : letZ (c : Int) with
    | true =>
      have HG := Lib.hid (HGG.out true (digZ (c : Int)) hl rfl)
      clear hl
      go_wp2
      go_ret
      rw [HG.out]
      exact GoesP.stay HH.out rfl HB0.out rfl
    | false =>
      have HG := Lib.hid (fun b2 e => HGG.out false b2 hl e)
      clear hl
      go_wp2_with fail
      refine (digit_any _ _).mono ?_
      rintro e w1 ⟨rfl, hw⟩
      subst hw
      cases hd : digZ (c : Int) with
      | true =>
        have HG := Lib.hid (HG.out true hd)
        clear hd
        go_wp2
        go_ret
        rw [HG.out]
        exact GoesP.stay HH.out rfl HB0.out rfl
      | false =>
        have HG := Lib.hid (HG.out false hd)
        clear hd
        go_wp2
        go_ret
        rw [HG.out]
        exact GoesP.stay HH.out rfl HB0.out rfl
  · obtain ⟨⟨f0, f1, f2, f3⟩, fz⟩ := h.facts
    have f2 : w.cell? ⟨N, 2, none⟩ = some (.int .i64 2) := f2
    have hg : ∀ b2, digZ (c : Int) = b2 → goes 2 (curOf s start pos) c = if b2 = true then some 2 else none := fun b2 e2 => by
      subst e2; rfl
    have HGG := Lib.hid hg
    clear h hg
    go_enter Tryz.func170, Tryz.ntmps170
    go_wp2_with fail
    refine (digit_any _ _).mono ?_
    rintro e w1 ⟨rfl, hw⟩
    subst hw
    cases hd : digZ (c : Int) with
    | true =>
      have HG := Lib.hid (HGG.out true hd)
      clear hd
      go_wp2
      go_ret
      rw [HG.out]
      exact GoesP.stay HH.out rfl HB0.out rfl
    | false =>
      have HG := Lib.hid (HGG.out false hd)
      clear hd
      go_wp2
      go_ret
      rw [HG.out]
      exact GoesP.stay HH.out rfl HB0.out rfl
  · obtain ⟨⟨f0, f1, f2, f3⟩, fz⟩ := h.facts
    have f2 : w.cell? ⟨N, 2, none⟩ = some (.int .i64 3) := f2
    by_cases hc : c = 39
    · subst hc
      have HS := Lib.hid (h.stateN 4)
      clear h
      go_enter Tryz.func170, Tryz.ntmps170
      go_wp2
      go_ret
      exact ⟨rfl, HS.out⟩
    · have hcb : ((c : Int) == 39) = false := beq_eq_false_iff_ne.2 (by omega)
      have HG := Lib.hid (show goes 3 (curOf s start pos) c = some 3 by unfold goes; simp only; rw [if_neg hc])
      clear h hc
      go_enter Tryz.func170, Tryz.ntmps170
      go_wp2
      go_ret
      rw [HG.out]
      exact GoesP.stay HH.out rfl HB0.out rfl
  · obtain ⟨⟨f0, f1, f2, f3⟩, fz⟩ := h.facts
    have f2 : w.cell? ⟨N, 2, none⟩ = some (.int .i64 4) := f2
    by_cases hc : c = 39
    · subst hc
      have HS := Lib.hid (h.stateN 3)
      clear h
      go_enter Tryz.func170, Tryz.ntmps170
      go_wp2
      go_ret
      exact ⟨rfl, HS.out⟩
    · have hcb : ((c : Int) == 39) = false := beq_eq_false_iff_ne.2 (by omega)
      have HG := Lib.hid (show goes 4 (curOf s start pos) c = none by unfold goes; simp only; rw [if_neg hc])
      clear h hc
      go_enter Tryz.func170, Tryz.ntmps170
      go_wp2
      go_ret
      rw [HG.out]
      exact GoesP.stay HH.out rfl HB0.out rfl
  · have f0 := fun k => (h.drew k).facts.1.1
    have f2 := fun k => (h.drew k).facts.1.2.2.1
    have f3 := fun k => (h.drew k).facts.1.2.2.2
    obtain ⟨⟨g0, _, g2, g3⟩, fz⟩ := h.facts
    have hsl := run_slice_text s start pos h1 h2
    obtain ⟨S, hS⟩ : ∃ S, S = s.extract start pos := ⟨_, rfl⟩
    have HSe := Lib.hid (show S.data.toList = curOf s start pos by rw [hS]; exact curOf_extract s start pos)
    rw [← hS] at hsl
    clear hS
    by_cases hd1 : S.data.toList = [45] ∧ c = 45
    · obtain ⟨hd1, rfl⟩ := hd1
      have hb : (S.toList == [45]) = true := by rw [ByteArray.toList_eq, hd1]; rfl
      have HG := Lib.hid (show goes 5 (curOf s start pos) 45 = some 6 by rw [← HSe.out, hd1]; rfl)
      clear h hd1
      go_enter Tryz.func170, Tryz.ntmps170
      go_upto_region 15 with (fail)
      go_quiet (fail)
      have H1 := Lib.hid ((HH.out.drew nq).stateN 6)
      have hdw := (HH.out.drew nq).facts
      obtain ⟨⟨k0, _, k2, k3⟩, kz⟩ := hdw
      clear f0 f2 f3 g0 g2 g3 fz hsl hb
      go_wp2
      go_ret
      rw [HG.out]
      exact ⟨rfl, H1.out.1, (Kp.below (Nat.le_of_lt HH.out.low) (drewB w nq)).trans H1.out.2⟩
    · have HG := Lib.hid (show goes 5 (curOf s start pos) c = if pairL S.data.toList c = true then some 5 else none by
        unfold goes
        simp only
        rw [← HSe.out, if_neg (fun e => hd1 (by simpa using e))])
      have hb : (S.toList == [45]) = false ∨ ((S.toList == [45]) = true ∧ ((c : Int) == 45) = false) := by
        rw [ByteArray.toList_eq]
        by_cases h0 : S.data.toList = [45]
        · right
          exact ⟨by rw [h0]; rfl, beq_eq_false_iff_ne.2 (fun e => hd1 ⟨h0, by omega⟩)⟩
        · left
          exact beq_eq_false_iff_ne.2 h0
      clear h hd1
      obtain ⟨pb, hpb⟩ : ∃ pb, pairL S.data.toList c = pb := ⟨_, rfl⟩
      have HPb := Lib.hid hpb
      rw [hpb] at HG
      clear hpb
      rcases hb with hb | ⟨hb, hb2⟩
      all_goals
        go_enter Tryz.func170, Tryz.ntmps170
        go_upto_region 15 with (fail)
        go_quiet (fail)
        obtain ⟨w1, hw1⟩ : ∃ w1, w1 = w.drewN nq := ⟨_, rfl⟩
        rw [← hw1]
        have HB1 := Lib.hid (show Below w.heap.size w w1 by rw [hw1]; exact drewB w nq)
        have H1 := Lib.hid (show LSt s w1 N v n xs 5 start by rw [hw1]; exact HH.out.drew nq)
        clear hw1 f0 f2 f3 g0 g2 g3 fz
        have f0 := fun k => (H1.out.drew k).facts.1.1
        have f2 := fun k => (H1.out.drew k).facts.1.2.2.1
        have f3 := fun k => (H1.out.drew k).facts.1.2.2.2
        obtain ⟨⟨g0, _, g2, g3⟩, fz⟩ := H1.out.facts
        go_upto_region 18 with (fail)
        go_quiet ((go_at_call 264; exact Calls.quiet_of_same (pair_any S c _)))
        rw [HPb.out]
        go_wp2
        go_ret
        rw [HG.out]
        cases pb
        · rw [if_neg (by simp)]
          exact GoesP.stay (o := none) (md := 5) HH.out rfl (show Below w.heap.size w (w1.drewN _) from ⟨HB1.out.os, HB1.out.tape, HB1.out.output, HB1.out.size, HB1.out.block⟩) rfl
        · rw [if_pos rfl]
          exact GoesP.stay (o := some 5) (md := 5) HH.out rfl (show Below w.heap.size w (w1.drewN _) from ⟨HB1.out.os, HB1.out.tape, HB1.out.output, HB1.out.size, HB1.out.block⟩) rfl
  · obtain ⟨⟨f0, f1, f2, f3⟩, fz⟩ := h.facts
    have f2 : w.cell? ⟨N, 2, none⟩ = some (.int .i64 6) := f2
    by_cases hc : c = 10
    · subst hc
      clear h
      go_enter Tryz.func170, Tryz.ntmps170
      go_wp2
      go_ret
      exact GoesP.stay HH.out rfl HB0.out rfl
    · have hcb : ((c : Int) != 10) = true := bne_iff_ne.2 (by omega)
      have HG := Lib.hid (show goes 6 (curOf s start pos) c = some 6 by unfold goes; simp only; rw [if_neg hc])
      clear h hc
      go_enter Tryz.func170, Tryz.ntmps170
      go_wp2
      go_ret
      rw [HG.out]
      exact GoesP.stay HH.out rfl HB0.out rfl
end Go.Proofs.YtpinalpigefenaaGreatDoor
