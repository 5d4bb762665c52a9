/- Not, And, Or of the program. (Turned from round 1.) -/
import Derived.Test.YtplgkblahmndoaaForm1
import Derived.Test.YtplgkblahmndoaaValPure
import Derived.RowKit
import Derived.IntWalk
import Derived.WalkKit
import Derived.WalkLawsBesides
import Derived.WalkSpells
import Derived.Outline
import Derived.BigQuiet
import Derived.Deep.QuietTactic
import Derived.StillTailTactics
import Derived.Deep.RegionHeld3
import Derived.LoopTactic
import Derived.Lib.Hide
namespace Go.Proofs.Ytplgkblahmndoaa
open Go.RowKit
set_option linter.unusedVariables false
set_option maxRecDepth 100000

def andI (a b : Int) : Int := if a = 0 ∨ b = 0 then 0 else if a = 1 ∧ b = 1 then 1 else 2
def notI (a : Int) : Int := if a = 0 then 1 else if a = 1 then 0 else 2
def orI (a b : Int) : Int := notI (andI (notI a) (notI b))
theorem not_any (a : Int) (w : World) : Calls Try.prog 98 #[.int .i64 a] w fun e w' => e = .returned (.int .i64 (notI a)) ∧ w = w' := by
  by_cases h0 : a = 0
  · subst h0
    go_enter Try.func98, Try.ntmps98
    go_wp2
    go_ret
    exact ⟨rfl, rfl⟩
  · by_cases h1 : a = 1
    · subst h1
      go_enter Try.func98, Try.ntmps98
      go_wp2
      go_ret
      exact ⟨rfl, rfl⟩
    · have e0 : (a == 0) = false := beq_eq_false_iff_ne.2 h0
      have e1 : (a == 1) = false := beq_eq_false_iff_ne.2 h1
      have hn : notI a = 2 := by unfold notI; rw [if_neg h0, if_neg h1]
      rw [hn]
      clear hn
      go_enter Try.func98, Try.ntmps98
      go_wp2
      go_ret
      exact ⟨rfl, rfl⟩
theorem and_any (a b : Int) (w : World) : Calls Try.prog 99 #[.int .i64 a, .int .i64 b] w fun e w' => e = .returned (.int .i64 (andI a b)) ∧ w = w' := by
  by_cases h0 : a = 0 ∨ b = 0
  · have hn : andI a b = 0 := by unfold andI; rw [if_pos h0]
    rw [hn]; clear hn
    by_cases ha : a = 0
    · subst ha
      clear h0
      go_enter Try.func99, Try.ntmps99
      go_wp2
      go_ret
      exact ⟨rfl, rfl⟩
    · obtain rfl : b = 0 := by rcases h0 with h | h; exact absurd h ha; exact h
      have e0 : (a == 0) = false := beq_eq_false_iff_ne.2 ha
      clear h0
      go_enter Try.func99, Try.ntmps99
      go_wp2
      go_ret
      exact ⟨rfl, rfl⟩
  · have h0a : ¬ a = 0 := fun h => h0 (.inl h)
    have h0b : ¬ b = 0 := fun h => h0 (.inr h)
    have e0 : (a == 0) = false := beq_eq_false_iff_ne.2 h0a
    have e1 : (b == 0) = false := beq_eq_false_iff_ne.2 h0b
    by_cases h1 : a = 1
    · by_cases h2 : b = 1
      · subst h1 h2
        clear h0 h0a h0b e0 e1
        go_enter Try.func99, Try.ntmps99
        go_wp2
        go_ret
        exact ⟨rfl, rfl⟩
      · have hn : andI a b = 2 := by unfold andI; rw [if_neg h0, if_neg (fun h => h2 h.2)]
        rw [hn]; clear hn
        have e3 : (b == 1) = false := beq_eq_false_iff_ne.2 h2
        subst h1
        clear h0 h0a h0b e0
        go_enter Try.func99, Try.ntmps99
        go_wp2
        go_ret
        exact ⟨rfl, rfl⟩
    · have hn : andI a b = 2 := by unfold andI; rw [if_neg h0, if_neg (fun h => h1 h.1)]
      rw [hn]; clear hn
      have e3 : (a == 1) = false := beq_eq_false_iff_ne.2 h1
      clear h0 h0a h0b
      go_enter Try.func99, Try.ntmps99
      go_wp2
      go_ret
      exact ⟨rfl, rfl⟩
theorem or_any (a b : Int) (w : World) : Calls Try.prog 100 #[.int .i64 a, .int .i64 b] w fun e w' => e = .returned (.int .i64 (orI a b)) ∧ w = w' := by
  go_enter Try.func100, Try.ntmps100
  go_wp2_with fail
  refine (not_any a _).mono ?_
  rintro e w' ⟨rfl, rfl⟩
  go_wp2_with fail
  refine (not_any b _).mono ?_
  rintro e w' ⟨rfl, rfl⟩
  go_wp2_with fail
  refine (and_any _ _ _).mono ?_
  rintro e w' ⟨rfl, rfl⟩
  go_wp2_with fail
  refine (not_any _ _).mono ?_
  rintro e w' ⟨rfl, rfl⟩
  go_wp2_with fail
  go_ret
  exact ⟨rfl, rfl⟩
end Go.Proofs.Ytplgkblahmndoaa
