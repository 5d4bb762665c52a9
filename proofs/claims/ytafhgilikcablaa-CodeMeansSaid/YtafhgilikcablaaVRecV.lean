/- Reckon of the program. (Turned from round 1.) -/
import Derived.Test.YtafhgilikcablaaIns
import Derived.RowKit
import Derived.IntWalk
import Derived.WalkKit
import Derived.WalkLawsBesides
import Derived.WalkSpells
import Derived.Outline
import Derived.BigQuiet
import Derived.Deep.QuietTactic
import Derived.StillTailTactics
import Derived.Deep.RegionHeld3
import Derived.LoopTactic
import Derived.Lib.Hide
import Derived.Test.YtafhgilikcablaaVCmpR
namespace Go.Proofs.Ytafhgilikcablaa
open Go.RowKit Go.IntWalk
set_option linter.unusedVariables false
set_option linter.unusedSimpArgs false
set_option maxRecDepth 100000

def InR (r : Int) : Prop := -9223372036854775808 ≤ r ∧ r ≤ 9223372036854775807
def fitB (r : Int) : Bool := decide (-9223372036854775808 ≤ r ∧ r ≤ 9223372036854775807)
theorem fitB_iff (r : Int) : fitB r = true ↔ InR r := by unfold fitB InR; simp
theorem wrap_of_fit {r : Int} (h : fitB r = true) : wrap64 r = r := wrap64_in r (by have := (fitB_iff r).1 h; exact this)
theorem wrap_spec (p : Int) : ∃ k : Int, wrap64 p = p - k * 18446744073709551616 ∧ -9223372036854775808 ≤ wrap64 p ∧ wrap64 p ≤ 9223372036854775807 :=
  ⟨(p + 9223372036854775808) / 18446744073709551616, by unfold wrap64; omega, by unfold wrap64; omega, by unfold wrap64; omega⟩
theorem tmod_bound (n b : Int) (hb : b ≠ 0) (hb1 : -9223372036854775808 ≤ b) (hb2 : b ≤ 9223372036854775808) : -9223372036854775808 < n.tmod b ∧ n.tmod b < 9223372036854775808 := by
  rcases Int.lt_or_gt_of_ne hb with h | h
  · have h1 := Int.tmod_lt_of_pos n (show 0 < -b by omega)
    have h2 := Int.lt_tmod_of_pos n (show 0 < -b by omega)
    rw [Int.tmod_neg] at h1 h2
    omega
  · have h1 := Int.tmod_lt_of_pos n h
    have h2 := Int.lt_tmod_of_pos n h
    omega
theorem mul_fit {a b : Int} (ha : InR a) (hb : InR b) (hb0 : b ≠ 0) (hn : ¬ (b = -1 ∧ a = -9223372036854775808)) : (wrap64 ((wrap64 (a * b)).tdiv b) == a) = fitB (a * b) := by
  unfold InR at ha hb
  rcases hf : fitB (a * b) with _ | _
  · have hnf : ¬ (-9223372036854775808 ≤ a * b ∧ a * b ≤ 9223372036854775807) := by
      intro h; rw [(fitB_iff (a * b)).2 h] at hf; exact Bool.noConfusion hf
    rw [beq_eq_false_iff_ne]
    intro he
    obtain ⟨k, h1, h2, h3⟩ := wrap_spec (a * b)
    generalize hN : wrap64 (a * b) = n at *
    have hq := Int.natAbs_tdiv_le_natAbs n b
    have hdm := Int.mul_tdiv_add_tmod n b
    have hr := tmod_bound n b hb0 (by omega) (by omega)
    generalize hQ : n.tdiv b = q at *
    generalize hR : n.tmod b = r at *
    by_cases hqr : q ≤ 9223372036854775807
    · rw [wrap64_in q (by omega)] at he
      subst he
      rw [Int.mul_comm] at hdm
      generalize q * b = p at *
      omega
    · have hn2 : n = -9223372036854775808 := by omega
      have hq2 : q = 9223372036854775808 := by omega
      have ha2 : a = -9223372036854775808 := by rw [← he, hq2]; unfold wrap64; omega
      apply hn
      refine ⟨?_, ha2⟩
      rw [hq2, hn2] at hdm
      omega
  · have hw := wrap_of_fit hf
    rw [hw, Int.mul_tdiv_cancel a hb0, wrap64_in a ha]; simp
theorem fit_zero {a b : Int} (h : a = 0 ∨ b = 0) : fitB (a * b) = true := by
  rw [fitB_iff]; unfold InR; rcases h with h | h <;> simp [h]
theorem fit_min : fitB (-9223372036854775808 * -1) = false := by
  rcases h : fitB (-9223372036854775808 * -1) with _ | _
  · rfl
  · exact absurd ((fitB_iff _).1 h) (by unfold InR; omega)
theorem ret_pair {k : IntKind} {a b : Int} {f g : Bool} (h : a = b) (h2 : f = g) : Ending.returned (.tuple #[.int k a, .bool f]) = .returned (.tuple #[.int k b, .bool g]) := by rw [h, h2]
end Go.Proofs.Ytafhgilikcablaa
namespace Go.Proofs.Ytafhgilikcablaa
open Go.RowKit
set_option linter.unusedVariables false
set_option linter.unusedSimpArgs false
set_option maxRecDepth 100000

/-- a world with some draws more -/
def Drawn (w w' : World) : Prop := ∃ k, w.drewN k = w'
theorem Drawn.refl (w : World) : Drawn w w := ⟨0, rfl⟩
theorem Drawn.one (w : World) : Drawn w w.drew := ⟨1, rfl⟩
/-- what Plus, minus and times of the document give -/
def cutN (r : Int) : Int := if fitB r = true then r else 0
theorem cut_yes {r : Int} (h : fitB r = true) : cutN r = r := by unfold cutN; rw [if_pos h]
theorem cut_no {r : Int} (h : fitB r = false) : cutN r = 0 := by unfold cutN; rw [if_neg (by rw [h]; exact Bool.false_ne_true)]
def cutE (r : Int) : Ending := .returned (.tuple #[.int .i64 (cutN r), .bool (fitB r)])
theorem fit_no {r : Int} (h : ¬ InR r) : fitB r = false := by
  rcases hf : fitB r with _ | _
  · rfl
  · exact absurd ((fitB_iff r).1 hf) h
theorem cutE_no {r : Int} (h : ¬ InR r) : Ending.returned (.tuple #[.int .i64 0, .bool false]) = cutE r := by
  unfold cutE; rw [fit_no h, cut_no (fit_no h)]
theorem cutE_yes {r : Int} (h : InR r) : Ending.returned (.tuple #[.int .i64 (wrap64 r), .bool true]) = cutE r := by
  have h' := (fitB_iff r).2 h
  unfold cutE; rw [h', cut_yes h', wrap_of_fit h']
theorem P1 {a b : Int} (ha : InR a) (hb : InR b) (h : 0 < b) (h2 : wrap64 (9223372036854775807 - b) < a) : Ending.returned (.tuple #[.int .i64 0, .bool false]) = cutE (a + b) :=
  cutE_no (by unfold InR at *; rw [IntWalk.wrap64_in _ (by omega)] at h2; omega)
theorem P2 {a b : Int} (ha : InR a) (hb : InR b) (h : 0 < b) (h2 : a ≤ wrap64 (9223372036854775807 - b)) : Ending.returned (.tuple #[.int .i64 (wrap64 (a + b)), .bool true]) = cutE (a + b) :=
  cutE_yes (by unfold InR at *; rw [IntWalk.wrap64_in _ (by omega)] at h2; omega)
theorem P3 {a b : Int} (ha : InR a) (hb : InR b) (h : b < 0) (h2 : a < wrap64 (-9223372036854775808 - b)) : Ending.returned (.tuple #[.int .i64 0, .bool false]) = cutE (a + b) :=
  cutE_no (by unfold InR at *; rw [IntWalk.wrap64_in _ (by omega)] at h2; omega)
theorem P4 {a b : Int} (ha : InR a) (hb : InR b) (h : b < 0) (h2 : wrap64 (-9223372036854775808 - b) ≤ a) : Ending.returned (.tuple #[.int .i64 (wrap64 (a + b)), .bool true]) = cutE (a + b) :=
  cutE_yes (by unfold InR at *; rw [IntWalk.wrap64_in _ (by omega)] at h2; omega)
theorem P5 {a b : Int} (ha : InR a) (h : 0 ≤ b) (h2 : b ≤ 0) : Ending.returned (.tuple #[.int .i64 (wrap64 (a + b)), .bool true]) = cutE (a + b) :=
  cutE_yes (by unfold InR at *; omega)
theorem M1 {a b : Int} (ha : InR a) (hb : InR b) (h : b < 0) (h2 : wrap64 (9223372036854775807 + b) < a) : Ending.returned (.tuple #[.int .i64 0, .bool false]) = cutE (a - b) :=
  cutE_no (by unfold InR at *; rw [IntWalk.wrap64_in _ (by omega)] at h2; omega)
theorem M2 {a b : Int} (ha : InR a) (hb : InR b) (h : b < 0) (h2 : a ≤ wrap64 (9223372036854775807 + b)) : Ending.returned (.tuple #[.int .i64 (wrap64 (a - b)), .bool true]) = cutE (a - b) :=
  cutE_yes (by unfold InR at *; rw [IntWalk.wrap64_in _ (by omega)] at h2; omega)
theorem M3 {a b : Int} (ha : InR a) (hb : InR b) (h : 0 < b) (h2 : a < wrap64 (-9223372036854775808 + b)) : Ending.returned (.tuple #[.int .i64 0, .bool false]) = cutE (a - b) :=
  cutE_no (by unfold InR at *; rw [IntWalk.wrap64_in _ (by omega)] at h2; omega)
theorem M4 {a b : Int} (ha : InR a) (hb : InR b) (h : 0 < b) (h2 : wrap64 (-9223372036854775808 + b) ≤ a) : Ending.returned (.tuple #[.int .i64 (wrap64 (a - b)), .bool true]) = cutE (a - b) :=
  cutE_yes (by unfold InR at *; rw [IntWalk.wrap64_in _ (by omega)] at h2; omega)
theorem M5 {a b : Int} (ha : InR a) (h : 0 ≤ b) (h2 : b ≤ 0) : Ending.returned (.tuple #[.int .i64 (wrap64 (a - b)), .bool true]) = cutE (a - b) :=
  cutE_yes (by unfold InR at *; omega)
theorem rplus_any (a b : Int) (ha : Hid (InR a)) (hb : Hid (InR b)) (w : World) : Calls Try.prog 144 #[.int .i64 a, .int .i64 b] w fun e w' => e = cutE (a + b) ∧ w = w' := by
  go_enter Try.func144, Try.ntmps144
  go_wp2
  all_goals go_ret2
  all_goals first
    | exact ⟨P1 ha.out hb.out (by assumption) (by assumption), rfl⟩
    | exact ⟨P2 ha.out hb.out (by assumption) (by assumption), rfl⟩
    | exact ⟨P3 ha.out hb.out (by assumption) (by assumption), rfl⟩
    | exact ⟨P4 ha.out hb.out (by assumption) (by assumption), rfl⟩
    | exact ⟨P5 ha.out (by assumption) (by assumption), rfl⟩
theorem rminus_any (a b : Int) (ha : Hid (InR a)) (hb : Hid (InR b)) (w : World) : Calls Try.prog 145 #[.int .i64 a, .int .i64 b] w fun e w' => e = cutE (a - b) ∧ w = w' := by
  go_enter Try.func145, Try.ntmps145
  go_wp2
  all_goals go_ret2
  all_goals first
    | exact ⟨M1 ha.out hb.out (by assumption) (by assumption), rfl⟩
    | exact ⟨M2 ha.out hb.out (by assumption) (by assumption), rfl⟩
    | exact ⟨M3 ha.out hb.out (by assumption) (by assumption), rfl⟩
    | exact ⟨M4 ha.out hb.out (by assumption) (by assumption), rfl⟩
    | exact ⟨M5 ha.out (by assumption) (by assumption), rfl⟩
/-- what the document's times gives -/
def rmulN (a b : Int) : Int := if fitB (a * b) = true then a * b else if (a = -9223372036854775808 ∧ b = -1) ∨ (b = -9223372036854775808 ∧ a = -1) then 0 else wrap64 (a * b)
theorem rmulN_fit {a b : Int} (h : fitB (a * b) = true) : rmulN a b = a * b := by unfold rmulN; rw [if_pos h]
theorem rmulN_no {a b : Int} (h : (a = -9223372036854775808 ∧ b = -1) ∨ (b = -9223372036854775808 ∧ a = -1)) : fitB (a * b) = false ∧ rmulN a b = 0 := by
  have hf : fitB (a * b) = false := by
    rcases h with ⟨rfl, rfl⟩ | ⟨rfl, rfl⟩
    · exact fit_min
    · rw [Int.mul_comm]; exact fit_min
  refine ⟨hf, ?_⟩
  unfold rmulN; rw [if_neg (by rw [hf]; exact Bool.false_ne_true), if_pos h]
theorem rmulN_else {a b : Int} (h : ¬ ((a = -9223372036854775808 ∧ b = -1) ∨ (b = -9223372036854775808 ∧ a = -1))) : rmulN a b = wrap64 (a * b) := by
  unfold rmulN; split
  · rename_i hf; rw [wrap_of_fit hf]
  · rfl
theorem rtimes_any (a b : Int) (ha : Hid (InR a)) (hb : Hid (InR b)) (w : World) : Calls Try.prog 146 #[.int .i64 a, .int .i64 b] w fun e w' => e = .returned (.tuple #[.int .i64 (rmulN a b), .bool (fitB (a * b))]) ∧ Drawn w w' := by
  by_cases h0 : a = 0
  · subst h0
    have HF := Lib.hid (show fitB (0 * b) = true from fit_zero (.inl rfl))
    have HN := Lib.hid (show rmulN 0 b = 0 by rw [rmulN_fit HF.out]; simp)
    rw [HN.out, HF.out]
    go_enter Try.func146, Try.ntmps146
    go_wp2
    go_ret2
    exact ⟨rfl, Drawn.refl _⟩
  have e0 : (a == 0) = false := beq_eq_false_iff_ne.2 h0
  by_cases h1 : b = 0
  · subst h1
    have HF := Lib.hid (show fitB (a * 0) = true from fit_zero (.inr rfl))
    have HN := Lib.hid (show rmulN a 0 = 0 by rw [rmulN_fit HF.out]; simp)
    rw [HN.out, HF.out]
    clear h0
    go_enter Try.func146, Try.ntmps146
    go_wp2
    go_ret2
    exact ⟨rfl, Drawn.refl _⟩
  have e1 : (b == 0) = false := beq_eq_false_iff_ne.2 h1
  by_cases h2 : (a = -9223372036854775808 ∧ b = -1) ∨ (b = -9223372036854775808 ∧ a = -1)
  · obtain ⟨hf, hn⟩ := rmulN_no h2
    have HF := Lib.hid hf
    have HN := Lib.hid hn
    rw [HN.out, HF.out]
    clear hf hn
    rcases h2 with ⟨rfl, rfl⟩ | ⟨rfl, rfl⟩
    · clear HN HF h0 h1 e0 e1
      go_enter Try.func146, Try.ntmps146
      go_wp2
      go_ret2
      exact ⟨rfl, Drawn.refl _⟩
    · clear HN HF h0 h1 e0 e1
      go_enter Try.func146, Try.ntmps146
      go_wp2
      go_ret2
      exact ⟨rfl, Drawn.refl _⟩
  have HN := Lib.hid (rmulN_else h2)
  have HM := Lib.hid (mul_fit ha.out hb.out h1 (fun h => h2 (.inl ⟨h.2, h.1⟩)))
  rw [HN.out, ← HM.out]
  by_cases h3 : b = -1
  · have h4 : ¬ a = -9223372036854775808 := fun h => h2 (.inl ⟨h, h3⟩)
    have e4 : (a == -9223372036854775808) = false := beq_eq_false_iff_ne.2 h4
    subst h3
    clear h2 HN HM h0 h4
    go_enter Try.func146, Try.ntmps146
    go_wp2
    go_region
    go_wp2
    go_ret2
    exact ⟨ret_pair (by rw [Int.mul_neg_one]) (by rw [Int.mul_neg_one, Int.tdiv_neg, Int.tdiv_one]), Drawn.one _⟩
  · have e3 : (b == -1) = false := beq_eq_false_iff_ne.2 h3
    rcases e7 : (a == -9223372036854775808) with _ | _
    · rcases e5 : (b == -9223372036854775808) with _ | _
      · clear h2 HN HM h0 h3
        go_enter Try.func146, Try.ntmps146
        go_wp2
        go_region
        go_wp2
        go_ret2
        exact ⟨rfl, Drawn.one _⟩
      · have h6 : ¬ a = -1 := fun h => h2 (.inr ⟨eq_of_beq e5, h⟩)
        have e6 : (a == -1) = false := beq_eq_false_iff_ne.2 h6
        clear h2 HN HM h0 h3 h6
        go_enter Try.func146, Try.ntmps146
        go_wp2
        go_region
        go_wp2
        go_ret2
        exact ⟨rfl, Drawn.one _⟩
    · rcases e5 : (b == -9223372036854775808) with _ | _
      · clear h2 HN HM h0 h3
        go_enter Try.func146, Try.ntmps146
        go_wp2
        go_region
        go_wp2
        go_ret2
        exact ⟨rfl, Drawn.one _⟩
      · have h6 : ¬ a = -1 := fun h => h2 (.inr ⟨eq_of_beq e5, h⟩)
        have e6 : (a == -1) = false := beq_eq_false_iff_ne.2 h6
        clear h2 HN HM h0 h3 h6
        go_enter Try.func146, Try.ntmps146
        go_wp2
        go_region
        go_wp2
        go_ret2
        exact ⟨rfl, Drawn.one _⟩
end Go.Proofs.Ytafhgilikcablaa
namespace Go.Proofs.Ytafhgilikcablaa
open Go.RowKit
set_option linter.unusedVariables false
set_option linter.unusedSimpArgs false
set_option maxRecDepth 100000

def opI (op : ByteArray) (a b : Int) : Int := if op.toList = [43] then a + b else if op.toList = [45] then a - b else a * b
def known3 (op : ByteArray) : Bool := op.toList == [43] || op.toList == [45] || op.toList == [42]
/-- what Reckon gives: kind, number, error -/
def recF (op : ByteArray) (ka na : Int) (sa : ByteArray) (kb nb : Int) (sb : ByteArray) : Int × Int × Int :=
  if known3 op = false ∨ formedB ka na sa = false ∨ formedB kb nb sb = false then (0, 0, 1)
  else if ka = 2 ∨ kb = 2 then (0, 0, 7) else if ka = 0 ∨ kb = 0 then (0, 0, 0)
  else if fitB (opI op na nb) = true then (1, opI op na nb, 0) else (0, 0, 13)
theorem opI_add (a b : Int) : opI ⟨#[43]⟩ a b = a + b := by unfold opI; rw [if_pos (by decide +kernel)]
theorem opI_sub (a b : Int) : opI ⟨#[45]⟩ a b = a - b := by unfold opI; rw [if_neg (by decide +kernel), if_pos (by decide +kernel)]
theorem opI_mul (a b : Int) : opI ⟨#[42]⟩ a b = a * b := by unfold opI; rw [if_neg (by decide +kernel), if_neg (by decide +kernel)]
theorem op3_cases (op : ByteArray) : (op = ⟨#[43]⟩ ∨ op = ⟨#[45]⟩ ∨ op = ⟨#[42]⟩) ∨
    ((op.toList == [43]) = false ∧ (op.toList == [45]) = false ∧ (op.toList == [42]) = false ∧ (op.toList != [43]) = true ∧ (op.toList != [45]) = true ∧ (op.toList != [42]) = true) := by
  by_cases h1 : op.toList = [43]
  · exact .inl (.inl (of_toList h1))
  by_cases h2 : op.toList = [45]
  · exact .inl (.inr (.inl (of_toList h2)))
  by_cases h3 : op.toList = [42]
  · exact .inl (.inr (.inr (of_toList h3)))
  exact .inr ⟨beq_eq_false_iff_ne.2 h1, beq_eq_false_iff_ne.2 h2, beq_eq_false_iff_ne.2 h3, bne_iff_ne.2 h1, bne_iff_ne.2 h2, bne_iff_ne.2 h3⟩
theorem belN (k : Nat) {w : World} {w' : World} (h : Below w.heap.size w w') : Below w.heap.size w (w'.drewN k) := ⟨h.os, h.tape, h.output, h.size, h.block⟩
def recE (k n e : Int) : Ending := .returned (.tuple #[.agg #[.int .i64 k, .int .i64 n, .string ⟨#[]⟩], .int .i64 e])
end Go.Proofs.Ytafhgilikcablaa
