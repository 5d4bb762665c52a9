/- The lexer's begin: any rune. -/
import Derived.Test.YtpinalpigefenaaGreatDoorLwSign
namespace Go.Proofs.YtpinalpigefenaaGreatDoor
open Go.RowKit
set_option linter.unusedVariables false
set_option linter.unusedSimpArgs false
set_option maxRecDepth 100000

/-- what a call on a reader answers, if it is a new state -/
def BeginP (s : ByteArray) (w : World) (N : Nat) (v : Value) (n : Nat) (xs : List Value) (pos : Nat) (o : An Nat) (e : Ending) (w' : World) : Prop :=
  match o with
  | .ok m => e = .returned (.int .i64 0) ∧ LSt s w' N v n xs ((m : Nat) : Int) pos ∧ Kp N w w'
  | .no x => e = .returned (.int .i64 x) ∧ Kp N w w'
theorem LSt.opened {s : ByteArray} {w : World} {N : Nat} {v : Value} {n : Nat} {xs : List Value} {st start : Int} (h : LSt s w N v n xs st start) (x : Int) : LSt s (w.setCell ⟨N, 3, none⟩ (.int .i64 x)) N v n xs st x ∧ Kp N w (w.setCell ⟨N, 3, none⟩ (.int .i64 x)) := ⟨h.begin x, Kp.set h.rd _ _⟩
set_option maxHeartbeats 6400000 in
theorem begin_any (s : ByteArray) (w : World) (N : Nat) (v : Value) (n : Nat) (xs : List Value) (st start : Int) (pos c : Nat) (h : LSt s w N v n xs st start) (hc : c ≤ 1114111) :
    Calls Tryz.prog 171 #[.pointer (some ⟨N, 0, none⟩), .int .i64 (pos : Int), .int .i32 (c : Int)] w (BeginP s w N v n xs pos (beginM c)) := by
  have H1 := Lib.hid (h.opened (pos : Int))
  have HH := Lib.hid h
  obtain ⟨⟨f0, f1, f2, f3⟩, fz⟩ := h.facts
  obtain ⟨W, hW⟩ : ∃ W, W = w.setCell ⟨N, 3, none⟩ (.int .i64 (pos : Int)) := ⟨_, rfl⟩
  rw [← hW] at H1
  have HW := Lib.hid hW
  clear h hW
  by_cases hb : c = 32 ∨ c = 9 ∨ c = 10
  · rcases hb with rfl | rfl | rfl
    all_goals
      go_enter Tryz.func171, Tryz.ntmps171
      go_upto_region 3 with (fail)
      rw [← HW.out]
      clear f0 f1 f2 f3 fz
      obtain ⟨⟨f0, f1, f2, f3⟩, fz⟩ := H1.out.1.facts
      have H2 := Lib.hid (H1.out.1.stateN 0)
      go_wp2
      go_ret
      exact ⟨rfl, H2.out.1, H1.out.2.trans H2.out.2⟩
  · have e1 : ((c : Int) == 32) = false := beq_eq_false_iff_ne.2 (by omega)
    have e2 : ((c : Int) == 9) = false := beq_eq_false_iff_ne.2 (by omega)
    have e3 : ((c : Int) == 10) = false := beq_eq_false_iff_ne.2 (by omega)
    have HBg := Lib.hid (show beginM c = if letL c = true then .ok 1 else if digL c = true then .ok 2 else if c = 39 then .ok 3 else if signL c = true then .ok 5 else .no eS by unfold beginM; rw [if_neg hb])
    clear hb
    go_enter Tryz.func171, Tryz.ntmps171
    go_upto_region 3 with (fail)
    rw [← HW.out]
    clear f0 f1 f2 f3 fz
    obtain ⟨⟨f0, f1, f2, f3⟩, fz⟩ := H1.out.1.facts
    go_wp2_with fail
    refine (letter_any _ _).mono ?_
    rintro e w1 ⟨rfl, hw⟩
    subst hw
    cases hl : letZ (c : Int) with
    | true =>
      have HG := Lib.hid (show beginM c = .ok 1 by rw [HBg.out, if_pos (show letL c = true from hl)])
      have H2 := Lib.hid (H1.out.1.stateN 1)
      clear hl
      go_wp2
      go_ret
      rw [HG.out]
      exact ⟨rfl, H2.out.1, H1.out.2.trans H2.out.2⟩
    | false =>
      have HL := Lib.hid (show ¬ letL c = true from by unfold letL; rw [hl]; simp)
      clear hl
      go_wp2_with fail
      refine (digit_any _ _).mono ?_
      rintro e w2 ⟨rfl, hw⟩
      subst hw
      cases hd : digZ (c : Int) with
      | true =>
        have HG := Lib.hid (show beginM c = .ok 2 by rw [HBg.out, if_neg HL.out, if_pos (show digL c = true from hd)])
        have H2 := Lib.hid (H1.out.1.stateN 2)
        clear hd
        go_wp2
        go_ret
        rw [HG.out]
        exact ⟨rfl, H2.out.1, H1.out.2.trans H2.out.2⟩
      | false =>
        have HDg := Lib.hid (show ¬ digL c = true from by unfold digL; rw [hd]; simp)
        clear hd
        by_cases h39 : c = 39
        · subst h39
          have HG := Lib.hid (show beginM 39 = .ok 3 by rw [HBg.out, if_neg HL.out, if_neg HDg.out, if_pos rfl])
          have H2 := Lib.hid (H1.out.1.stateN 3)
          go_wp2
          go_ret
          rw [HG.out]
          exact ⟨rfl, H2.out.1, H1.out.2.trans H2.out.2⟩
        · have e4 : ((c : Int) == 39) = false := beq_eq_false_iff_ne.2 (by omega)
          have H39 := Lib.hid h39
          clear h39
          go_wp2_with fail
          refine (containsrune_any _ c hc).mono ?_
          rintro e w3 ⟨rfl, hb⟩
          have H3 := Lib.hid (H1.out.1.below hb)
          have HK3 := Lib.hid (H1.out.2.trans (Kp.below (Nat.le_of_lt H1.out.1.low) hb))
          clear hb f0 f1 f2 f3 fz
          cases hs : signL c with
          | true =>
            have HG := Lib.hid (show beginM c = .ok 5 by rw [HBg.out, if_neg HL.out, if_neg HDg.out, if_neg H39.out, if_pos hs])
            obtain ⟨⟨f0, f1, f2, f3⟩, fz⟩ := H3.out.facts
            have H2 := Lib.hid (H3.out.stateN 5)
            clear hs
            go_wp2
            go_ret
            rw [HG.out]
            exact ⟨rfl, H2.out.1, HK3.out.trans H2.out.2⟩
          | false =>
            have HG := Lib.hid (show beginM c = .no eS by rw [HBg.out, if_neg HL.out, if_neg HDg.out, if_neg H39.out, if_neg (by rw [hs]; simp)])
            clear hs
            go_wp2
            go_ret
            rw [HG.out]
            exact ⟨rfl, HK3.out⟩
end Go.Proofs.YtpinalpigefenaaGreatDoor
