/- Contracts of Formed (the program's and the document's), of the document's ints and texts, Order, Rows: by walks; no conditions. -/
import Derived.Test.YtafhgilikcablaaForm1
import Derived.Test.YtafhgilikcablaaIns
import Derived.RowKit
import Derived.IntWalk
import Derived.WalkKit
import Derived.WalkLawsBesides
import Derived.WalkSpells
import Derived.Outline
import Derived.BigQuiet
import Derived.Deep.QuietTactic
import Derived.StillTailTactics
import Derived.Deep.RegionHeld3
import Derived.LoopTactic
import Derived.Lib.Hide
namespace Go.Proofs.Ytafhgilikcablaa
open Go.RowKit
set_option linter.unusedVariables false
set_option linter.unusedSimpArgs false
set_option maxRecDepth 100000

def andI (a b : Int) : Int := if a = 0 ∨ b = 0 then 0 else if a = 1 ∧ b = 1 then 1 else 2
def notI (a : Int) : Int := if a = 0 then 1 else if a = 1 then 0 else 2
def orI (a b : Int) : Int := notI (andI (notI a) (notI b))
theorem not_any (a : Int) (w : World) : Calls Try.prog 81 #[.int .i64 a] w fun e w' => e = .returned (.int .i64 (notI a)) ∧ w = w' := by
  by_cases h0 : a = 0
  · subst h0
    go_enter Try.func81, Try.ntmps81
    go_wp2
    go_ret
    exact ⟨rfl, rfl⟩
  · by_cases h1 : a = 1
    · subst h1
      go_enter Try.func81, Try.ntmps81
      go_wp2
      go_ret
      exact ⟨rfl, rfl⟩
    · have e0 : (a == 0) = false := beq_eq_false_iff_ne.2 h0
      have e1 : (a == 1) = false := beq_eq_false_iff_ne.2 h1
      have hn : notI a = 2 := by unfold notI; rw [if_neg h0, if_neg h1]
      rw [hn]
      clear hn
      go_enter Try.func81, Try.ntmps81
      go_wp2
      go_ret
      exact ⟨rfl, rfl⟩
theorem and_any (a b : Int) (w : World) : Calls Try.prog 82 #[.int .i64 a, .int .i64 b] w fun e w' => e = .returned (.int .i64 (andI a b)) ∧ w = w' := by
  by_cases h0 : a = 0 ∨ b = 0
  · have hn : andI a b = 0 := by unfold andI; rw [if_pos h0]
    rw [hn]; clear hn
    by_cases ha : a = 0
    · subst ha
      clear h0
      go_enter Try.func82, Try.ntmps82
      go_wp2
      go_ret
      exact ⟨rfl, rfl⟩
    · obtain rfl : b = 0 := by rcases h0 with h | h; exact absurd h ha; exact h
      have e0 : (a == 0) = false := beq_eq_false_iff_ne.2 ha
      clear h0
      go_enter Try.func82, Try.ntmps82
      go_wp2
      go_ret
      exact ⟨rfl, rfl⟩
  · have h0a : ¬ a = 0 := fun h => h0 (.inl h)
    have h0b : ¬ b = 0 := fun h => h0 (.inr h)
    have e0 : (a == 0) = false := beq_eq_false_iff_ne.2 h0a
    have e1 : (b == 0) = false := beq_eq_false_iff_ne.2 h0b
    by_cases h1 : a = 1
    · by_cases h2 : b = 1
      · subst h1 h2
        clear h0 h0a h0b e0 e1
        go_enter Try.func82, Try.ntmps82
        go_wp2
        go_ret
        exact ⟨rfl, rfl⟩
      · have hn : andI a b = 2 := by unfold andI; rw [if_neg h0, if_neg (fun h => h2 h.2)]
        rw [hn]; clear hn
        have e3 : (b == 1) = false := beq_eq_false_iff_ne.2 h2
        subst h1
        clear h0 h0a h0b e0
        go_enter Try.func82, Try.ntmps82
        go_wp2
        go_ret
        exact ⟨rfl, rfl⟩
    · have hn : andI a b = 2 := by unfold andI; rw [if_neg h0, if_neg (fun h => h1 h.1)]
      rw [hn]; clear hn
      have e3 : (a == 1) = false := beq_eq_false_iff_ne.2 h1
      clear h0 h0a h0b
      go_enter Try.func82, Try.ntmps82
      go_wp2
      go_ret
      exact ⟨rfl, rfl⟩
theorem or_any (a b : Int) (w : World) : Calls Try.prog 83 #[.int .i64 a, .int .i64 b] w fun e w' => e = .returned (.int .i64 (orI a b)) ∧ w = w' := by
  go_enter Try.func83, Try.ntmps83
  go_wp2_with fail
  refine (not_any a _).mono ?_
  rintro e w' ⟨rfl, rfl⟩
  go_wp2_with fail
  refine (not_any b _).mono ?_
  rintro e w' ⟨rfl, rfl⟩
  go_wp2_with fail
  refine (and_any _ _ _).mono ?_
  rintro e w' ⟨rfl, rfl⟩
  go_wp2_with fail
  refine (not_any _ _).mono ?_
  rintro e w' ⟨rfl, rfl⟩
  go_wp2_with fail
  go_ret
  exact ⟨rfl, rfl⟩
end Go.Proofs.Ytafhgilikcablaa
namespace Go.Proofs.Ytafhgilikcablaa
open Go.RowKit
set_option linter.unusedVariables false
set_option linter.unusedSimpArgs false
set_option maxRecDepth 100000

def cleanI (a : Int) : Int := if a = 0 then 0 else if a = 1 then 1 else 2
theorem clean_any (a : Int) (w : World) : Calls Try.prog 143 #[.int .i64 a] w fun e w' => e = .returned (.int .i64 (cleanI a)) ∧ w = w' := by
  by_cases h0 : a = 0
  · subst h0
    go_enter Try.func143, Try.ntmps143
    go_wp2
    go_ret
    exact ⟨rfl, rfl⟩
  · by_cases h1 : a = 1
    · subst h1
      go_enter Try.func143, Try.ntmps143
      go_wp2
      go_ret
      exact ⟨rfl, rfl⟩
    · have e0 : (a == 0) = false := beq_eq_false_iff_ne.2 h0
      have e1 : (a == 1) = false := beq_eq_false_iff_ne.2 h1
      have hn : cleanI a = 2 := by unfold cleanI; rw [if_neg h0, if_neg h1]
      rw [hn]
      clear hn
      go_enter Try.func143, Try.ntmps143
      go_wp2
      go_ret
      exact ⟨rfl, rfl⟩
theorem rnot_any (a : Int) (w : World) : Calls Try.prog 110 #[.int .i64 a] w fun e w' => e = .returned (.int .i64 (notI a)) ∧ w = w' := by
  by_cases h0 : a = 0
  · subst h0
    go_enter Try.func110, Try.ntmps110
    go_wp2_with fail
    refine (clean_any _ _).mono ?_
    rintro e w' ⟨rfl, rfl⟩
    have hc : cleanI 0 = 0 := rfl
    rw [hc]; clear hc
    go_wp2
    go_ret
    exact ⟨rfl, rfl⟩
  · by_cases h1 : a = 1
    · subst h1
      go_enter Try.func110, Try.ntmps110
      go_wp2_with fail
      refine (clean_any _ _).mono ?_
      rintro e w' ⟨rfl, rfl⟩
      have hc : cleanI 1 = 1 := rfl
      rw [hc]; clear hc
      go_wp2
      go_ret
      exact ⟨rfl, rfl⟩
    · have hc : cleanI a = 2 := by unfold cleanI; rw [if_neg h0, if_neg h1]
      have hn : notI a = 2 := by unfold notI; rw [if_neg h0, if_neg h1]
      have HC := Lib.hid hc
      rw [hn]; clear hc hn
      go_enter Try.func110, Try.ntmps110
      go_wp2_with fail
      refine (clean_any _ _).mono ?_
      rintro e w' ⟨rfl, rfl⟩
      rw [HC.out]
      go_wp2
      go_ret
      exact ⟨rfl, rfl⟩
theorem rand_any (a b : Int) (w : World) : Calls Try.prog 147 #[.int .i64 a, .int .i64 b] w fun e w' => e = .returned (.int .i64 (andI a b)) ∧ w = w' := by
  by_cases h0 : a = 0 ∨ b = 0
  · have hn : andI a b = 0 := by unfold andI; rw [if_pos h0]
    rw [hn]; clear hn
    by_cases ha : a = 0
    · subst ha
      clear h0
      go_enter Try.func147, Try.ntmps147
      go_wp2
      go_ret
      exact ⟨rfl, rfl⟩
    · obtain rfl : b = 0 := by rcases h0 with h | h; exact absurd h ha; exact h
      have e0 : (a == 0) = false := beq_eq_false_iff_ne.2 ha
      clear h0
      go_enter Try.func147, Try.ntmps147
      go_wp2
      go_ret
      exact ⟨rfl, rfl⟩
  · have h0a : ¬ a = 0 := fun h => h0 (.inl h)
    have h0b : ¬ b = 0 := fun h => h0 (.inr h)
    have e0 : (a == 0) = false := beq_eq_false_iff_ne.2 h0a
    have e1 : (b == 0) = false := beq_eq_false_iff_ne.2 h0b
    by_cases h1 : a = 1
    · by_cases h2 : b = 1
      · subst h1 h2
        clear h0 h0a h0b e0 e1
        go_enter Try.func147, Try.ntmps147
        go_wp2
        go_ret
        exact ⟨rfl, rfl⟩
      · have hn : andI a b = 2 := by unfold andI; rw [if_neg h0, if_neg (fun h => h2 h.2)]
        rw [hn]; clear hn
        have e3 : (b == 1) = false := beq_eq_false_iff_ne.2 h2
        subst h1
        clear h0 h0a h0b e0
        go_enter Try.func147, Try.ntmps147
        go_wp2
        go_ret
        exact ⟨rfl, rfl⟩
    · have hn : andI a b = 2 := by unfold andI; rw [if_neg h0, if_neg (fun h => h1 h.1)]
      rw [hn]; clear hn
      have e3 : (a == 1) = false := beq_eq_false_iff_ne.2 h1
      clear h0 h0a h0b
      go_enter Try.func147, Try.ntmps147
      go_wp2
      go_ret
      exact ⟨rfl, rfl⟩
theorem orI_cases (a b : Int) : orI a b = if a = 1 ∨ b = 1 then 1 else if a = 0 ∧ b = 0 then 0 else 2 := by
  unfold orI notI andI
  by_cases a0 : a = 0 <;> by_cases a1 : a = 1 <;> by_cases b0 : b = 0 <;> by_cases b1 : b = 1 <;> simp_all
theorem ror_any (a b : Int) (w : World) : Calls Try.prog 148 #[.int .i64 a, .int .i64 b] w fun e w' => e = .returned (.int .i64 (orI a b)) ∧ w = w' := by
  by_cases h0 : a = 1 ∨ b = 1
  · have hn : orI a b = 1 := by rw [orI_cases, if_pos h0]
    rw [hn]; clear hn
    by_cases ha : a = 1
    · subst ha
      clear h0
      go_enter Try.func148, Try.ntmps148
      go_wp2
      go_ret
      exact ⟨rfl, rfl⟩
    · obtain rfl : b = 1 := by rcases h0 with h | h; exact absurd h ha; exact h
      have e0 : (a == 1) = false := beq_eq_false_iff_ne.2 ha
      clear h0
      go_enter Try.func148, Try.ntmps148
      go_wp2
      go_ret
      exact ⟨rfl, rfl⟩
  · have h0a : ¬ a = 1 := fun h => h0 (.inl h)
    have h0b : ¬ b = 1 := fun h => h0 (.inr h)
    have e0 : (a == 1) = false := beq_eq_false_iff_ne.2 h0a
    have e1 : (b == 1) = false := beq_eq_false_iff_ne.2 h0b
    by_cases h1 : a = 0
    · by_cases h2 : b = 0
      · subst h1 h2
        clear h0 h0a h0b e0 e1
        go_enter Try.func148, Try.ntmps148
        go_wp2
        go_ret
        exact ⟨rfl, rfl⟩
      · have hn : orI a b = 2 := by rw [orI_cases, if_neg h0, if_neg (fun h => h2 h.2)]
        rw [hn]; clear hn
        have e3 : (b == 0) = false := beq_eq_false_iff_ne.2 h2
        subst h1
        clear h0 h0a h0b e0
        go_enter Try.func148, Try.ntmps148
        go_wp2
        go_ret
        exact ⟨rfl, rfl⟩
    · have hn : orI a b = 2 := by rw [orI_cases, if_neg h0, if_neg (fun h => h1 h.1)]
      rw [hn]; clear hn
      have e3 : (a == 0) = false := beq_eq_false_iff_ne.2 h1
      clear h0 h0a h0b
      go_enter Try.func148, Try.ntmps148
      go_wp2
      go_ret
      exact ⟨rfl, rfl⟩
end Go.Proofs.Ytafhgilikcablaa
namespace Go.Proofs.Ytafhgilikcablaa
open Go.RowKit
set_option linter.unusedVariables false
set_option linter.unusedSimpArgs false

theorem oI_lt {a b : Int} (h : a < b) : (-1 : Int) = ordI a b := by unfold ordI; rw [if_pos h]
theorem oI_gt {a b : Int} (h : b < a) : (1 : Int) = ordI a b := by unfold ordI; rw [if_neg (by omega), if_pos h]
theorem oI_eq {a b : Int} (h1 : ¬ a < b) (h : ¬ b < a) : (0 : Int) = ordI a b := by unfold ordI; rw [if_neg h1, if_neg h]

theorem ints_any (a b : Int) (w : World) : Calls Try.prog 169 #[.int .i64 a, .int .i64 b] w fun e w' => e = .returned (.int .i64 (ordI a b)) ∧ w = w' := by
  by_cases h1 : a < b
  · rw [← oI_lt h1]
    go_enter Try.func169, Try.ntmps169
    go_wp2
    go_ret
    exact ⟨rfl, rfl⟩
  · by_cases h2 : b < a
    · rw [← oI_gt h2]
      go_enter Try.func169, Try.ntmps169
      go_wp2
      go_ret
      exact ⟨rfl, rfl⟩
    · rw [← oI_eq h1 h2]
      go_enter Try.func169, Try.ntmps169
      go_wp2
      go_ret
      exact ⟨rfl, rfl⟩

theorem oS_lt {a b : ByteArray} (h : Op.bytesLess a.toList b.toList = true) : (-1 : Int) = ordS a b := by unfold ordS; rw [if_pos h]
theorem oS_eq {a b : ByteArray} (h : Op.bytesLess a.toList b.toList = false) (h2 : (a.toList == b.toList) = true) : (0 : Int) = ordS a b := by
  unfold ordS; rw [if_neg (by rw [h]; exact Bool.false_ne_true), if_pos (eq_of_beq h2)]
theorem oS_gt {a b : ByteArray} (h : Op.bytesLess a.toList b.toList = false) (h2 : (a.toList == b.toList) = false) : (1 : Int) = ordS a b := by
  unfold ordS; rw [if_neg (by rw [h]; exact Bool.false_ne_true), if_neg (beq_eq_false_iff_ne.1 h2)]

theorem texts_any (a b : ByteArray) (w : World) : Calls Try.prog 170 #[.string a, .string b] w fun e w' => e = .returned (.int .i64 (ordS a b)) ∧ w = w' := by
  rcases Bool.eq_false_or_eq_true (Op.bytesLess a.toList b.toList) with h1 | h1
  · rw [← oS_lt h1]
    go_enter Try.func170, Try.ntmps170
    go_wp2
    go_ret
    exact ⟨rfl, rfl⟩
  · rcases Bool.eq_false_or_eq_true (a.toList == b.toList) with h2 | h2
    · rw [← oS_eq h1 h2]
      go_enter Try.func170, Try.ntmps170
      go_wp2
      go_ret
      exact ⟨rfl, rfl⟩
    · rw [← oS_gt h1 h2]
      go_enter Try.func170, Try.ntmps170
      go_wp2
      go_ret
      exact ⟨rfl, rfl⟩
theorem rorder_any (ka na : Int) (sa : ByteArray) (kb nb : Int) (sb : ByteArray) (w : World) :
    Calls Try.prog 141 #[.agg #[.int .i64 ka, .int .i64 na, .string sa], .agg #[.int .i64 kb, .int .i64 nb, .string sb]] w fun e w' => e = .returned (.int .i64 (ordV ka na sa kb nb sb)) ∧ ((w.alloc (.cells #[.int .i64 ka, .int .i64 na, .string sa] 38)).alloc (.cells #[.int .i64 kb, .int .i64 nb, .string sb] 38)) = w' := by
  by_cases hk : ka = kb
  · subst hk
    by_cases hn : na = nb
    · subst hn
      rw [← oV_s]
      go_enter Try.func141, Try.ntmps141
      go_wp2_with (go_at_call 170; refine (texts_any _ _ _).mono ?_; rintro e w' ⟨rfl, rfl⟩)
      go_ret
      exact ⟨rfl, rfl⟩
    · have e1 : (na != nb) = true := bne_iff_ne.2 hn
      rw [← oV_n e1]
      go_enter Try.func141, Try.ntmps141
      go_wp2_with (go_at_call 169; refine (ints_any _ _ _).mono ?_; rintro e w' ⟨rfl, rfl⟩)
      go_ret
      exact ⟨rfl, rfl⟩
  · have e1 : (ka != kb) = true := bne_iff_ne.2 hk
    rw [← oV_k e1]
    go_enter Try.func141, Try.ntmps141
    go_wp2_with (go_at_call 169; refine (ints_any _ _ _).mono ?_; rintro e w' ⟨rfl, rfl⟩)
    go_ret
    exact ⟨rfl, rfl⟩
end Go.Proofs.Ytafhgilikcablaa
