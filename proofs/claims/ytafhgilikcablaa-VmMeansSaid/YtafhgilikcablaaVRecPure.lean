/- Reckon: plain mathematics. (Turned from round 1.) -/
import Derived.Test.YtafhgilikcablaaIns
import Derived.RowKit
import Derived.IntWalk
import Derived.WalkKit
import Derived.WalkLawsBesides
import Derived.WalkSpells
import Derived.Outline
import Derived.BigQuiet
import Derived.Deep.QuietTactic
import Derived.StillTailTactics
import Derived.Deep.RegionHeld3
import Derived.LoopTactic
import Derived.Lib.Hide
namespace Go.Proofs.Ytafhgilikcablaa
open Go.RowKit Go.IntWalk
set_option linter.unusedVariables false
set_option linter.unusedSimpArgs false
set_option maxRecDepth 100000

def InR (r : Int) : Prop := -9223372036854775808 ≤ r ∧ r ≤ 9223372036854775807
def fitB (r : Int) : Bool := decide (-9223372036854775808 ≤ r ∧ r ≤ 9223372036854775807)
theorem fitB_iff (r : Int) : fitB r = true ↔ InR r := by unfold fitB InR; simp
theorem wrap_of_fit {r : Int} (h : fitB r = true) : wrap64 r = r := wrap64_in r (by have := (fitB_iff r).1 h; exact this)
theorem wrap_spec (p : Int) : ∃ k : Int, wrap64 p = p - k * 18446744073709551616 ∧ -9223372036854775808 ≤ wrap64 p ∧ wrap64 p ≤ 9223372036854775807 :=
  ⟨(p + 9223372036854775808) / 18446744073709551616, by unfold wrap64; omega, by unfold wrap64; omega, by unfold wrap64; omega⟩
theorem add_fit {a b : Int} (ha : InR a) (hb : InR b) : (decide (a < wrap64 (a + b)) == decide (0 < b)) = fitB (a + b) := by
  unfold InR at ha hb; obtain ⟨k, h1, h2, h3⟩ := wrap_spec (a + b)
  unfold fitB; generalize wrap64 (a + b) = n at *
  rw [Bool.eq_iff_iff]; simp only [beq_iff_eq, decide_eq_decide, decide_eq_true_eq]; omega
theorem sub_fit {a b : Int} (ha : InR a) (hb : InR b) : (decide (wrap64 (a - b) < a) == decide (0 < b)) = fitB (a - b) := by
  unfold InR at ha hb; obtain ⟨k, h1, h2, h3⟩ := wrap_spec (a - b)
  unfold fitB; generalize wrap64 (a - b) = n at *
  rw [Bool.eq_iff_iff]; simp only [beq_iff_eq, decide_eq_decide, decide_eq_true_eq]; omega
theorem tmod_bound (n b : Int) (hb : b ≠ 0) (hb1 : -9223372036854775808 ≤ b) (hb2 : b ≤ 9223372036854775808) : -9223372036854775808 < n.tmod b ∧ n.tmod b < 9223372036854775808 := by
  rcases Int.lt_or_gt_of_ne hb with h | h
  · have h1 := Int.tmod_lt_of_pos n (show 0 < -b by omega)
    have h2 := Int.lt_tmod_of_pos n (show 0 < -b by omega)
    rw [Int.tmod_neg] at h1 h2
    omega
  · have h1 := Int.tmod_lt_of_pos n h
    have h2 := Int.lt_tmod_of_pos n h
    omega
theorem mul_fit {a b : Int} (ha : InR a) (hb : InR b) (hb0 : b ≠ 0) (hn : ¬ (b = -1 ∧ a = -9223372036854775808)) : (wrap64 ((wrap64 (a * b)).tdiv b) == a) = fitB (a * b) := by
  unfold InR at ha hb
  rcases hf : fitB (a * b) with _ | _
  · have hnf : ¬ (-9223372036854775808 ≤ a * b ∧ a * b ≤ 9223372036854775807) := by
      intro h; rw [(fitB_iff (a * b)).2 h] at hf; exact Bool.noConfusion hf
    rw [beq_eq_false_iff_ne]
    intro he
    obtain ⟨k, h1, h2, h3⟩ := wrap_spec (a * b)
    generalize hN : wrap64 (a * b) = n at *
    have hq := Int.natAbs_tdiv_le_natAbs n b
    have hdm := Int.mul_tdiv_add_tmod n b
    have hr := tmod_bound n b hb0 (by omega) (by omega)
    generalize hQ : n.tdiv b = q at *
    generalize hR : n.tmod b = r at *
    by_cases hqr : q ≤ 9223372036854775807
    · rw [wrap64_in q (by omega)] at he
      subst he
      rw [Int.mul_comm] at hdm
      generalize q * b = p at *
      omega
    · have hn2 : n = -9223372036854775808 := by omega
      have hq2 : q = 9223372036854775808 := by omega
      have ha2 : a = -9223372036854775808 := by rw [← he, hq2]; unfold wrap64; omega
      apply hn
      refine ⟨?_, ha2⟩
      rw [hq2, hn2] at hdm
      omega
  · have hw := wrap_of_fit hf
    rw [hw, Int.mul_tdiv_cancel a hb0, wrap64_in a ha]; simp
/-- what 'times' gives -/
def mulN (a b : Int) : Int := if a = 0 ∨ b = 0 then 0 else if b = -1 ∧ a = -9223372036854775808 then 0 else wrap64 (a * b)
theorem mulN_fit {a b : Int} (h : fitB (a * b) = true) : mulN a b = a * b := by
  unfold mulN
  split
  · rename_i h0; rcases h0 with h0 | h0 <;> simp [h0]
  · split
    · rename_i h1; obtain ⟨rfl, rfl⟩ := h1
      exact absurd ((fitB_iff _).1 h) (by unfold InR; omega)
    · exact wrap_of_fit h
theorem fit_zero {a b : Int} (h : a = 0 ∨ b = 0) : fitB (a * b) = true := by
  rw [fitB_iff]; unfold InR; rcases h with h | h <;> simp [h]
theorem fit_min : fitB (-9223372036854775808 * -1) = false := by
  rcases h : fitB (-9223372036854775808 * -1) with _ | _
  · rfl
  · exact absurd ((fitB_iff _).1 h) (by unfold InR; omega)
theorem ret_pair {k : IntKind} {a b : Int} {f g : Bool} (h : a = b) (h2 : f = g) : Ending.returned (.tuple #[.int k a, .bool f]) = .returned (.tuple #[.int k b, .bool g]) := by rw [h, h2]
end Go.Proofs.Ytafhgilikcablaa
