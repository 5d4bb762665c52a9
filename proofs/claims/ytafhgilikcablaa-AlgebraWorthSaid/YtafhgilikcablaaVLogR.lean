/- Not, And, Or of the document. (Turned from round 1.) -/
import Derived.Test.YtafhgilikcablaaForm1
import Derived.Test.YtafhgilikcablaaValPure
import Derived.RowKit
import Derived.IntWalk
import Derived.WalkKit
import Derived.WalkLawsBesides
import Derived.WalkSpells
import Derived.Outline
import Derived.BigQuiet
import Derived.Deep.QuietTactic
import Derived.StillTailTactics
import Derived.Deep.RegionHeld3
import Derived.LoopTactic
import Derived.Lib.Hide
namespace Go.Proofs.Ytafhgilikcablaa
open Go.RowKit
set_option linter.unusedVariables false
set_option linter.unusedSimpArgs false
set_option maxRecDepth 100000

def andI (a b : Int) : Int := if a = 0 ∨ b = 0 then 0 else if a = 1 ∧ b = 1 then 1 else 2
def notI (a : Int) : Int := if a = 0 then 1 else if a = 1 then 0 else 2
def orI (a b : Int) : Int := notI (andI (notI a) (notI b))
theorem not_any (a : Int) (w : World) : Calls Try.prog 81 #[.int .i64 a] w fun e w' => e = .returned (.int .i64 (notI a)) ∧ w = w' := by
  by_cases h0 : a = 0
  · subst h0
    go_enter Try.func81, Try.ntmps81
    go_wp2
    go_ret
    exact ⟨rfl, rfl⟩
  · by_cases h1 : a = 1
    · subst h1
      go_enter Try.func81, Try.ntmps81
      go_wp2
      go_ret
      exact ⟨rfl, rfl⟩
    · have e0 : (a == 0) = false := beq_eq_false_iff_ne.2 h0
      have e1 : (a == 1) = false := beq_eq_false_iff_ne.2 h1
      have hn : notI a = 2 := by unfold notI; rw [if_neg h0, if_neg h1]
      rw [hn]
      clear hn
      go_enter Try.func81, Try.ntmps81
      go_wp2
      go_ret
      exact ⟨rfl, rfl⟩
theorem and_any (a b : Int) (w : World) : Calls Try.prog 82 #[.int .i64 a, .int .i64 b] w fun e w' => e = .returned (.int .i64 (andI a b)) ∧ w = w' := by
  by_cases h0 : a = 0 ∨ b = 0
  · have hn : andI a b = 0 := by unfold andI; rw [if_pos h0]
    rw [hn]; clear hn
    by_cases ha : a = 0
    · subst ha
      clear h0
      go_enter Try.func82, Try.ntmps82
      go_wp2
      go_ret
      exact ⟨rfl, rfl⟩
    · obtain rfl : b = 0 := by rcases h0 with h | h; exact absurd h ha; exact h
      have e0 : (a == 0) = false := beq_eq_false_iff_ne.2 ha
      clear h0
      go_enter Try.func82, Try.ntmps82
      go_wp2
      go_ret
      exact ⟨rfl, rfl⟩
  · have h0a : ¬ a = 0 := fun h => h0 (.inl h)
    have h0b : ¬ b = 0 := fun h => h0 (.inr h)
    have e0 : (a == 0) = false := beq_eq_false_iff_ne.2 h0a
    have e1 : (b == 0) = false := beq_eq_false_iff_ne.2 h0b
    by_cases h1 : a = 1
    · by_cases h2 : b = 1
      · subst h1 h2
        clear h0 h0a h0b e0 e1
        go_enter Try.func82, Try.ntmps82
        go_wp2
        go_ret
        exact ⟨rfl, rfl⟩
      · have hn : andI a b = 2 := by unfold andI; rw [if_neg h0, if_neg (fun h => h2 h.2)]
        rw [hn]; clear hn
        have e3 : (b == 1) = false := beq_eq_false_iff_ne.2 h2
        subst h1
        clear h0 h0a h0b e0
        go_enter Try.func82, Try.ntmps82
        go_wp2
        go_ret
        exact ⟨rfl, rfl⟩
    · have hn : andI a b = 2 := by unfold andI; rw [if_neg h0, if_neg (fun h => h1 h.1)]
      rw [hn]; clear hn
      have e3 : (a == 1) = false := beq_eq_false_iff_ne.2 h1
      clear h0 h0a h0b
      go_enter Try.func82, Try.ntmps82
      go_wp2
      go_ret
      exact ⟨rfl, rfl⟩
theorem or_any (a b : Int) (w : World) : Calls Try.prog 83 #[.int .i64 a, .int .i64 b] w fun e w' => e = .returned (.int .i64 (orI a b)) ∧ w = w' := by
  go_enter Try.func83, Try.ntmps83
  go_wp2_with fail
  refine (not_any a _).mono ?_
  rintro e w' ⟨rfl, rfl⟩
  go_wp2_with fail
  refine (not_any b _).mono ?_
  rintro e w' ⟨rfl, rfl⟩
  go_wp2_with fail
  refine (and_any _ _ _).mono ?_
  rintro e w' ⟨rfl, rfl⟩
  go_wp2_with fail
  refine (not_any _ _).mono ?_
  rintro e w' ⟨rfl, rfl⟩
  go_wp2_with fail
  go_ret
  exact ⟨rfl, rfl⟩
end Go.Proofs.Ytafhgilikcablaa
namespace Go.Proofs.Ytafhgilikcablaa
open Go.RowKit
set_option linter.unusedVariables false
set_option linter.unusedSimpArgs false
set_option maxRecDepth 100000

def cleanI (a : Int) : Int := if a = 0 then 0 else if a = 1 then 1 else 2
theorem clean_any (a : Int) (w : World) : Calls Try.prog 143 #[.int .i64 a] w fun e w' => e = .returned (.int .i64 (cleanI a)) ∧ w = w' := by
  by_cases h0 : a = 0
  · subst h0
    go_enter Try.func143, Try.ntmps143
    go_wp2
    go_ret
    exact ⟨rfl, rfl⟩
  · by_cases h1 : a = 1
    · subst h1
      go_enter Try.func143, Try.ntmps143
      go_wp2
      go_ret
      exact ⟨rfl, rfl⟩
    · have e0 : (a == 0) = false := beq_eq_false_iff_ne.2 h0
      have e1 : (a == 1) = false := beq_eq_false_iff_ne.2 h1
      have hn : cleanI a = 2 := by unfold cleanI; rw [if_neg h0, if_neg h1]
      rw [hn]
      clear hn
      go_enter Try.func143, Try.ntmps143
      go_wp2
      go_ret
      exact ⟨rfl, rfl⟩
theorem rnot_any (a : Int) (w : World) : Calls Try.prog 110 #[.int .i64 a] w fun e w' => e = .returned (.int .i64 (notI a)) ∧ w = w' := by
  by_cases h0 : a = 0
  · subst h0
    go_enter Try.func110, Try.ntmps110
    go_wp2_with fail
    refine (clean_any _ _).mono ?_
    rintro e w' ⟨rfl, rfl⟩
    have hc : cleanI 0 = 0 := rfl
    rw [hc]; clear hc
    go_wp2
    go_ret
    exact ⟨rfl, rfl⟩
  · by_cases h1 : a = 1
    · subst h1
      go_enter Try.func110, Try.ntmps110
      go_wp2_with fail
      refine (clean_any _ _).mono ?_
      rintro e w' ⟨rfl, rfl⟩
      have hc : cleanI 1 = 1 := rfl
      rw [hc]; clear hc
      go_wp2
      go_ret
      exact ⟨rfl, rfl⟩
    · have hc : cleanI a = 2 := by unfold cleanI; rw [if_neg h0, if_neg h1]
      have hn : notI a = 2 := by unfold notI; rw [if_neg h0, if_neg h1]
      have HC := Lib.hid hc
      rw [hn]; clear hc hn
      go_enter Try.func110, Try.ntmps110
      go_wp2_with fail
      refine (clean_any _ _).mono ?_
      rintro e w' ⟨rfl, rfl⟩
      rw [HC.out]
      go_wp2
      go_ret
      exact ⟨rfl, rfl⟩
theorem rand_any (a b : Int) (w : World) : Calls Try.prog 147 #[.int .i64 a, .int .i64 b] w fun e w' => e = .returned (.int .i64 (andI a b)) ∧ w = w' := by
  by_cases h0 : a = 0 ∨ b = 0
  · have hn : andI a b = 0 := by unfold andI; rw [if_pos h0]
    rw [hn]; clear hn
    by_cases ha : a = 0
    · subst ha
      clear h0
      go_enter Try.func147, Try.ntmps147
      go_wp2
      go_ret
      exact ⟨rfl, rfl⟩
    · obtain rfl : b = 0 := by rcases h0 with h | h; exact absurd h ha; exact h
      have e0 : (a == 0) = false := beq_eq_false_iff_ne.2 ha
      clear h0
      go_enter Try.func147, Try.ntmps147
      go_wp2
      go_ret
      exact ⟨rfl, rfl⟩
  · have h0a : ¬ a = 0 := fun h => h0 (.inl h)
    have h0b : ¬ b = 0 := fun h => h0 (.inr h)
    have e0 : (a == 0) = false := beq_eq_false_iff_ne.2 h0a
    have e1 : (b == 0) = false := beq_eq_false_iff_ne.2 h0b
    by_cases h1 : a = 1
    · by_cases h2 : b = 1
      · subst h1 h2
        clear h0 h0a h0b e0 e1
        go_enter Try.func147, Try.ntmps147
        go_wp2
        go_ret
        exact ⟨rfl, rfl⟩
      · have hn : andI a b = 2 := by unfold andI; rw [if_neg h0, if_neg (fun h => h2 h.2)]
        rw [hn]; clear hn
        have e3 : (b == 1) = false := beq_eq_false_iff_ne.2 h2
        subst h1
        clear h0 h0a h0b e0
        go_enter Try.func147, Try.ntmps147
        go_wp2
        go_ret
        exact ⟨rfl, rfl⟩
    · have hn : andI a b = 2 := by unfold andI; rw [if_neg h0, if_neg (fun h => h1 h.1)]
      rw [hn]; clear hn
      have e3 : (a == 1) = false := beq_eq_false_iff_ne.2 h1
      clear h0 h0a h0b
      go_enter Try.func147, Try.ntmps147
      go_wp2
      go_ret
      exact ⟨rfl, rfl⟩
theorem orI_cases (a b : Int) : orI a b = if a = 1 ∨ b = 1 then 1 else if a = 0 ∧ b = 0 then 0 else 2 := by
  unfold orI notI andI
  by_cases a0 : a = 0 <;> by_cases a1 : a = 1 <;> by_cases b0 : b = 0 <;> by_cases b1 : b = 1 <;> simp_all
theorem ror_any (a b : Int) (w : World) : Calls Try.prog 148 #[.int .i64 a, .int .i64 b] w fun e w' => e = .returned (.int .i64 (orI a b)) ∧ w = w' := by
  by_cases h0 : a = 1 ∨ b = 1
  · have hn : orI a b = 1 := by rw [orI_cases, if_pos h0]
    rw [hn]; clear hn
    by_cases ha : a = 1
    · subst ha
      clear h0
      go_enter Try.func148, Try.ntmps148
      go_wp2
      go_ret
      exact ⟨rfl, rfl⟩
    · obtain rfl : b = 1 := by rcases h0 with h | h; exact absurd h ha; exact h
      have e0 : (a == 1) = false := beq_eq_false_iff_ne.2 ha
      clear h0
      go_enter Try.func148, Try.ntmps148
      go_wp2
      go_ret
      exact ⟨rfl, rfl⟩
  · have h0a : ¬ a = 1 := fun h => h0 (.inl h)
    have h0b : ¬ b = 1 := fun h => h0 (.inr h)
    have e0 : (a == 1) = false := beq_eq_false_iff_ne.2 h0a
    have e1 : (b == 1) = false := beq_eq_false_iff_ne.2 h0b
    by_cases h1 : a = 0
    · by_cases h2 : b = 0
      · subst h1 h2
        clear h0 h0a h0b e0 e1
        go_enter Try.func148, Try.ntmps148
        go_wp2
        go_ret
        exact ⟨rfl, rfl⟩
      · have hn : orI a b = 2 := by rw [orI_cases, if_neg h0, if_neg (fun h => h2 h.2)]
        rw [hn]; clear hn
        have e3 : (b == 0) = false := beq_eq_false_iff_ne.2 h2
        subst h1
        clear h0 h0a h0b e0
        go_enter Try.func148, Try.ntmps148
        go_wp2
        go_ret
        exact ⟨rfl, rfl⟩
    · have hn : orI a b = 2 := by rw [orI_cases, if_neg h0, if_neg (fun h => h1 h.1)]
      rw [hn]; clear hn
      have e3 : (a == 0) = false := beq_eq_false_iff_ne.2 h1
      clear h0 h0a h0b
      go_enter Try.func148, Try.ntmps148
      go_wp2
      go_ret
      exact ⟨rfl, rfl⟩
end Go.Proofs.Ytafhgilikcablaa
