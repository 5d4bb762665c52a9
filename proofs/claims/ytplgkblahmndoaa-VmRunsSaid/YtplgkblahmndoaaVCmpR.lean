/- Compare of the document. (Turned from round 1.) -/
import Derived.Test.YtplgkblahmndoaaVCmpW
import Derived.RowKit
import Derived.IntWalk
import Derived.WalkKit
import Derived.WalkLawsBesides
import Derived.WalkSpells
import Derived.Outline
import Derived.BigQuiet
import Derived.Deep.QuietTactic
import Derived.StillTailTactics
import Derived.Deep.RegionHeld3
import Derived.LoopTactic
import Derived.Lib.Hide
namespace Go.Proofs.Ytplgkblahmndoaa
open Go.RowKit
set_option linter.unusedVariables false
set_option maxRecDepth 100000

set_option maxHeartbeats 2000000 in
theorem rcompare0 (ka na : Int) (sa : ByteArray) (kb nb : Int) (sb : ByteArray) (n e : Int) (hne : cmpF ⟨#[61]⟩ ka na sa kb nb sb = (n, e)) (w : World) :
    Calls Try.prog 107 #[.string ⟨#[61]⟩, .agg #[.int .i64 ka, .int .i64 na, .string sa], .agg #[.int .i64 kb, .int .i64 nb, .string sb]] w
      fun x w' => x = .returned (.tuple #[.int .i64 n, .int .i64 e]) ∧ Below w.heap.size w w' := by
  unfold cmpF at hne
  have hk : knownB ⟨#[61]⟩ = true := by decide +kernel
  rcases hfa : formedB ka na sa with _ | _
  · rw [if_pos (.inr (.inl hfa))] at hne
    obtain ⟨rfl, rfl⟩ := Prod.mk.inj hne
    clear hne hk
    go_enter Try.func107, Try.ntmps107
    go_wp2_with (first | (go_at_call 142; refine (rformed_any _ _ _ _).mono ?_; rintro e w' ⟨rfl, rfl⟩) | (go_at_call 149; refine (rorder_any _ _ _ _ _ _ _).mono ?_; rintro e w' ⟨rfl, rfl⟩) | (go_at_call 150; refine (rtruth_any _ _).mono ?_; rintro e w' ⟨rfl, rfl⟩))
    go_ret2
    exact ⟨rfl, bel _ (bel _ (bel _ (Below.refl _ _)))⟩
  rcases hfb : formedB kb nb sb with _ | _
  · rw [if_pos (.inr (.inr hfb))] at hne
    obtain ⟨rfl, rfl⟩ := Prod.mk.inj hne
    clear hne hk
    go_enter Try.func107, Try.ntmps107
    go_wp2_with (first | (go_at_call 142; refine (rformed_any _ _ _ _).mono ?_; rintro e w' ⟨rfl, rfl⟩) | (go_at_call 149; refine (rorder_any _ _ _ _ _ _ _).mono ?_; rintro e w' ⟨rfl, rfl⟩) | (go_at_call 150; refine (rtruth_any _ _).mono ?_; rintro e w' ⟨rfl, rfl⟩))
    go_ret2
    exact ⟨rfl, bel _ (bel _ (bel _ (bel _ (Below.refl _ _))))⟩
  rw [if_neg (by rw [hk, hfa, hfb]; simp)] at hne
  clear hk
  by_cases ha : ka = 0
  · rw [if_pos (.inl ha)] at hne
    obtain ⟨rfl, rfl⟩ := Prod.mk.inj hne
    subst ha
    clear hne
    go_enter Try.func107, Try.ntmps107
    go_wp2_with (first | (go_at_call 142; refine (rformed_any _ _ _ _).mono ?_; rintro e w' ⟨rfl, rfl⟩) | (go_at_call 149; refine (rorder_any _ _ _ _ _ _ _).mono ?_; rintro e w' ⟨rfl, rfl⟩) | (go_at_call 150; refine (rtruth_any _ _).mono ?_; rintro e w' ⟨rfl, rfl⟩))
    go_ret2
    exact ⟨rfl, bel _ (bel _ (bel _ (bel _ (Below.refl _ _))))⟩
  have ea : (ka == 0) = false := beq_eq_false_iff_ne.2 ha
  by_cases hb : kb = 0
  · rw [if_pos (.inr hb)] at hne
    obtain ⟨rfl, rfl⟩ := Prod.mk.inj hne
    subst hb
    clear hne
    go_enter Try.func107, Try.ntmps107
    go_wp2_with (first | (go_at_call 142; refine (rformed_any _ _ _ _).mono ?_; rintro e w' ⟨rfl, rfl⟩) | (go_at_call 149; refine (rorder_any _ _ _ _ _ _ _).mono ?_; rintro e w' ⟨rfl, rfl⟩) | (go_at_call 150; refine (rtruth_any _ _).mono ?_; rintro e w' ⟨rfl, rfl⟩))
    go_ret2
    exact ⟨rfl, bel _ (bel _ (bel _ (bel _ (Below.refl _ _))))⟩
  have eb : (kb == 0) = false := beq_eq_false_iff_ne.2 hb
  rw [if_neg (by simp [ha, hb])] at hne
  by_cases hab : ka = kb
  · rw [if_pos hab, sg1] at hne
    obtain ⟨rfl, rfl⟩ := Prod.mk.inj hne
    subst hab
    clear hne eb hb
    go_enter Try.func107, Try.ntmps107
    go_wp2_with (first | (go_at_call 142; refine (rformed_any _ _ _ _).mono ?_; rintro e w' ⟨rfl, rfl⟩) | (go_at_call 149; refine (rorder_any _ _ _ _ _ _ _).mono ?_; rintro e w' ⟨rfl, rfl⟩) | (go_at_call 150; refine (rtruth_any _ _).mono ?_; rintro e w' ⟨rfl, rfl⟩))
    go_ret2
    exact ⟨rfl, bel _ (bel _ (bel _ (bel _ (bel _ (bel _ (Below.refl _ _))))))⟩
  · rw [if_neg hab] at hne
    obtain ⟨rfl, rfl⟩ := Prod.mk.inj hne
    have ec : (ka != kb) = true := bne_iff_ne.2 hab
    clear hne
    go_enter Try.func107, Try.ntmps107
    go_wp2_with (first | (go_at_call 142; refine (rformed_any _ _ _ _).mono ?_; rintro e w' ⟨rfl, rfl⟩) | (go_at_call 149; refine (rorder_any _ _ _ _ _ _ _).mono ?_; rintro e w' ⟨rfl, rfl⟩) | (go_at_call 150; refine (rtruth_any _ _).mono ?_; rintro e w' ⟨rfl, rfl⟩))
    go_ret2
    exact ⟨rfl, bel _ (bel _ (bel _ (bel _ (Below.refl _ _))))⟩
set_option maxHeartbeats 2000000 in
theorem rcompare1 (ka na : Int) (sa : ByteArray) (kb nb : Int) (sb : ByteArray) (n e : Int) (hne : cmpF ⟨#[60, 62]⟩ ka na sa kb nb sb = (n, e)) (w : World) :
    Calls Try.prog 107 #[.string ⟨#[60, 62]⟩, .agg #[.int .i64 ka, .int .i64 na, .string sa], .agg #[.int .i64 kb, .int .i64 nb, .string sb]] w
      fun x w' => x = .returned (.tuple #[.int .i64 n, .int .i64 e]) ∧ Below w.heap.size w w' := by
  unfold cmpF at hne
  have hk : knownB ⟨#[60, 62]⟩ = true := by decide +kernel
  rcases hfa : formedB ka na sa with _ | _
  · rw [if_pos (.inr (.inl hfa))] at hne
    obtain ⟨rfl, rfl⟩ := Prod.mk.inj hne
    clear hne hk
    go_enter Try.func107, Try.ntmps107
    go_wp2_with (first | (go_at_call 142; refine (rformed_any _ _ _ _).mono ?_; rintro e w' ⟨rfl, rfl⟩) | (go_at_call 149; refine (rorder_any _ _ _ _ _ _ _).mono ?_; rintro e w' ⟨rfl, rfl⟩) | (go_at_call 150; refine (rtruth_any _ _).mono ?_; rintro e w' ⟨rfl, rfl⟩))
    go_ret2
    exact ⟨rfl, bel _ (bel _ (bel _ (Below.refl _ _)))⟩
  rcases hfb : formedB kb nb sb with _ | _
  · rw [if_pos (.inr (.inr hfb))] at hne
    obtain ⟨rfl, rfl⟩ := Prod.mk.inj hne
    clear hne hk
    go_enter Try.func107, Try.ntmps107
    go_wp2_with (first | (go_at_call 142; refine (rformed_any _ _ _ _).mono ?_; rintro e w' ⟨rfl, rfl⟩) | (go_at_call 149; refine (rorder_any _ _ _ _ _ _ _).mono ?_; rintro e w' ⟨rfl, rfl⟩) | (go_at_call 150; refine (rtruth_any _ _).mono ?_; rintro e w' ⟨rfl, rfl⟩))
    go_ret2
    exact ⟨rfl, bel _ (bel _ (bel _ (bel _ (Below.refl _ _))))⟩
  rw [if_neg (by rw [hk, hfa, hfb]; simp)] at hne
  clear hk
  by_cases ha : ka = 0
  · rw [if_pos (.inl ha)] at hne
    obtain ⟨rfl, rfl⟩ := Prod.mk.inj hne
    subst ha
    clear hne
    go_enter Try.func107, Try.ntmps107
    go_wp2_with (first | (go_at_call 142; refine (rformed_any _ _ _ _).mono ?_; rintro e w' ⟨rfl, rfl⟩) | (go_at_call 149; refine (rorder_any _ _ _ _ _ _ _).mono ?_; rintro e w' ⟨rfl, rfl⟩) | (go_at_call 150; refine (rtruth_any _ _).mono ?_; rintro e w' ⟨rfl, rfl⟩))
    go_ret2
    exact ⟨rfl, bel _ (bel _ (bel _ (bel _ (Below.refl _ _))))⟩
  have ea : (ka == 0) = false := beq_eq_false_iff_ne.2 ha
  by_cases hb : kb = 0
  · rw [if_pos (.inr hb)] at hne
    obtain ⟨rfl, rfl⟩ := Prod.mk.inj hne
    subst hb
    clear hne
    go_enter Try.func107, Try.ntmps107
    go_wp2_with (first | (go_at_call 142; refine (rformed_any _ _ _ _).mono ?_; rintro e w' ⟨rfl, rfl⟩) | (go_at_call 149; refine (rorder_any _ _ _ _ _ _ _).mono ?_; rintro e w' ⟨rfl, rfl⟩) | (go_at_call 150; refine (rtruth_any _ _).mono ?_; rintro e w' ⟨rfl, rfl⟩))
    go_ret2
    exact ⟨rfl, bel _ (bel _ (bel _ (bel _ (Below.refl _ _))))⟩
  have eb : (kb == 0) = false := beq_eq_false_iff_ne.2 hb
  rw [if_neg (by simp [ha, hb])] at hne
  by_cases hab : ka = kb
  · rw [if_pos hab, sg2] at hne
    obtain ⟨rfl, rfl⟩ := Prod.mk.inj hne
    subst hab
    clear hne eb hb
    go_enter Try.func107, Try.ntmps107
    go_wp2_with (first | (go_at_call 142; refine (rformed_any _ _ _ _).mono ?_; rintro e w' ⟨rfl, rfl⟩) | (go_at_call 149; refine (rorder_any _ _ _ _ _ _ _).mono ?_; rintro e w' ⟨rfl, rfl⟩) | (go_at_call 150; refine (rtruth_any _ _).mono ?_; rintro e w' ⟨rfl, rfl⟩))
    go_ret2
    exact ⟨rfl, bel _ (bel _ (bel _ (bel _ (bel _ (bel _ (Below.refl _ _))))))⟩
  · rw [if_neg hab] at hne
    obtain ⟨rfl, rfl⟩ := Prod.mk.inj hne
    have ec : (ka != kb) = true := bne_iff_ne.2 hab
    clear hne
    go_enter Try.func107, Try.ntmps107
    go_wp2_with (first | (go_at_call 142; refine (rformed_any _ _ _ _).mono ?_; rintro e w' ⟨rfl, rfl⟩) | (go_at_call 149; refine (rorder_any _ _ _ _ _ _ _).mono ?_; rintro e w' ⟨rfl, rfl⟩) | (go_at_call 150; refine (rtruth_any _ _).mono ?_; rintro e w' ⟨rfl, rfl⟩))
    go_ret2
    exact ⟨rfl, bel _ (bel _ (bel _ (bel _ (Below.refl _ _))))⟩
set_option maxHeartbeats 2000000 in
theorem rcompare2 (ka na : Int) (sa : ByteArray) (kb nb : Int) (sb : ByteArray) (n e : Int) (hne : cmpF ⟨#[60]⟩ ka na sa kb nb sb = (n, e)) (w : World) :
    Calls Try.prog 107 #[.string ⟨#[60]⟩, .agg #[.int .i64 ka, .int .i64 na, .string sa], .agg #[.int .i64 kb, .int .i64 nb, .string sb]] w
      fun x w' => x = .returned (.tuple #[.int .i64 n, .int .i64 e]) ∧ Below w.heap.size w w' := by
  unfold cmpF at hne
  have hk : knownB ⟨#[60]⟩ = true := by decide +kernel
  rcases hfa : formedB ka na sa with _ | _
  · rw [if_pos (.inr (.inl hfa))] at hne
    obtain ⟨rfl, rfl⟩ := Prod.mk.inj hne
    clear hne hk
    go_enter Try.func107, Try.ntmps107
    go_wp2_with (first | (go_at_call 142; refine (rformed_any _ _ _ _).mono ?_; rintro e w' ⟨rfl, rfl⟩) | (go_at_call 149; refine (rorder_any _ _ _ _ _ _ _).mono ?_; rintro e w' ⟨rfl, rfl⟩) | (go_at_call 150; refine (rtruth_any _ _).mono ?_; rintro e w' ⟨rfl, rfl⟩))
    go_ret2
    exact ⟨rfl, bel _ (bel _ (bel _ (Below.refl _ _)))⟩
  rcases hfb : formedB kb nb sb with _ | _
  · rw [if_pos (.inr (.inr hfb))] at hne
    obtain ⟨rfl, rfl⟩ := Prod.mk.inj hne
    clear hne hk
    go_enter Try.func107, Try.ntmps107
    go_wp2_with (first | (go_at_call 142; refine (rformed_any _ _ _ _).mono ?_; rintro e w' ⟨rfl, rfl⟩) | (go_at_call 149; refine (rorder_any _ _ _ _ _ _ _).mono ?_; rintro e w' ⟨rfl, rfl⟩) | (go_at_call 150; refine (rtruth_any _ _).mono ?_; rintro e w' ⟨rfl, rfl⟩))
    go_ret2
    exact ⟨rfl, bel _ (bel _ (bel _ (bel _ (Below.refl _ _))))⟩
  rw [if_neg (by rw [hk, hfa, hfb]; simp)] at hne
  clear hk
  by_cases ha : ka = 0
  · rw [if_pos (.inl ha)] at hne
    obtain ⟨rfl, rfl⟩ := Prod.mk.inj hne
    subst ha
    clear hne
    go_enter Try.func107, Try.ntmps107
    go_wp2_with (first | (go_at_call 142; refine (rformed_any _ _ _ _).mono ?_; rintro e w' ⟨rfl, rfl⟩) | (go_at_call 149; refine (rorder_any _ _ _ _ _ _ _).mono ?_; rintro e w' ⟨rfl, rfl⟩) | (go_at_call 150; refine (rtruth_any _ _).mono ?_; rintro e w' ⟨rfl, rfl⟩))
    go_ret2
    exact ⟨rfl, bel _ (bel _ (bel _ (bel _ (Below.refl _ _))))⟩
  have ea : (ka == 0) = false := beq_eq_false_iff_ne.2 ha
  by_cases hb : kb = 0
  · rw [if_pos (.inr hb)] at hne
    obtain ⟨rfl, rfl⟩ := Prod.mk.inj hne
    subst hb
    clear hne
    go_enter Try.func107, Try.ntmps107
    go_wp2_with (first | (go_at_call 142; refine (rformed_any _ _ _ _).mono ?_; rintro e w' ⟨rfl, rfl⟩) | (go_at_call 149; refine (rorder_any _ _ _ _ _ _ _).mono ?_; rintro e w' ⟨rfl, rfl⟩) | (go_at_call 150; refine (rtruth_any _ _).mono ?_; rintro e w' ⟨rfl, rfl⟩))
    go_ret2
    exact ⟨rfl, bel _ (bel _ (bel _ (bel _ (Below.refl _ _))))⟩
  have eb : (kb == 0) = false := beq_eq_false_iff_ne.2 hb
  rw [if_neg (by simp [ha, hb])] at hne
  by_cases hab : ka = kb
  · rw [if_pos hab, sg3] at hne
    obtain ⟨rfl, rfl⟩ := Prod.mk.inj hne
    subst hab
    clear hne eb hb
    go_enter Try.func107, Try.ntmps107
    go_wp2_with (first | (go_at_call 142; refine (rformed_any _ _ _ _).mono ?_; rintro e w' ⟨rfl, rfl⟩) | (go_at_call 149; refine (rorder_any _ _ _ _ _ _ _).mono ?_; rintro e w' ⟨rfl, rfl⟩) | (go_at_call 150; refine (rtruth_any _ _).mono ?_; rintro e w' ⟨rfl, rfl⟩))
    go_ret2
    exact ⟨rfl, bel _ (bel _ (bel _ (bel _ (bel _ (bel _ (Below.refl _ _))))))⟩
  · rw [if_neg hab] at hne
    obtain ⟨rfl, rfl⟩ := Prod.mk.inj hne
    have ec : (ka != kb) = true := bne_iff_ne.2 hab
    clear hne
    go_enter Try.func107, Try.ntmps107
    go_wp2_with (first | (go_at_call 142; refine (rformed_any _ _ _ _).mono ?_; rintro e w' ⟨rfl, rfl⟩) | (go_at_call 149; refine (rorder_any _ _ _ _ _ _ _).mono ?_; rintro e w' ⟨rfl, rfl⟩) | (go_at_call 150; refine (rtruth_any _ _).mono ?_; rintro e w' ⟨rfl, rfl⟩))
    go_ret2
    exact ⟨rfl, bel _ (bel _ (bel _ (bel _ (Below.refl _ _))))⟩
set_option maxHeartbeats 2000000 in
theorem rcompare3 (ka na : Int) (sa : ByteArray) (kb nb : Int) (sb : ByteArray) (n e : Int) (hne : cmpF ⟨#[60, 61]⟩ ka na sa kb nb sb = (n, e)) (w : World) :
    Calls Try.prog 107 #[.string ⟨#[60, 61]⟩, .agg #[.int .i64 ka, .int .i64 na, .string sa], .agg #[.int .i64 kb, .int .i64 nb, .string sb]] w
      fun x w' => x = .returned (.tuple #[.int .i64 n, .int .i64 e]) ∧ Below w.heap.size w w' := by
  unfold cmpF at hne
  have hk : knownB ⟨#[60, 61]⟩ = true := by decide +kernel
  rcases hfa : formedB ka na sa with _ | _
  · rw [if_pos (.inr (.inl hfa))] at hne
    obtain ⟨rfl, rfl⟩ := Prod.mk.inj hne
    clear hne hk
    go_enter Try.func107, Try.ntmps107
    go_wp2_with (first | (go_at_call 142; refine (rformed_any _ _ _ _).mono ?_; rintro e w' ⟨rfl, rfl⟩) | (go_at_call 149; refine (rorder_any _ _ _ _ _ _ _).mono ?_; rintro e w' ⟨rfl, rfl⟩) | (go_at_call 150; refine (rtruth_any _ _).mono ?_; rintro e w' ⟨rfl, rfl⟩))
    go_ret2
    exact ⟨rfl, bel _ (bel _ (bel _ (Below.refl _ _)))⟩
  rcases hfb : formedB kb nb sb with _ | _
  · rw [if_pos (.inr (.inr hfb))] at hne
    obtain ⟨rfl, rfl⟩ := Prod.mk.inj hne
    clear hne hk
    go_enter Try.func107, Try.ntmps107
    go_wp2_with (first | (go_at_call 142; refine (rformed_any _ _ _ _).mono ?_; rintro e w' ⟨rfl, rfl⟩) | (go_at_call 149; refine (rorder_any _ _ _ _ _ _ _).mono ?_; rintro e w' ⟨rfl, rfl⟩) | (go_at_call 150; refine (rtruth_any _ _).mono ?_; rintro e w' ⟨rfl, rfl⟩))
    go_ret2
    exact ⟨rfl, bel _ (bel _ (bel _ (bel _ (Below.refl _ _))))⟩
  rw [if_neg (by rw [hk, hfa, hfb]; simp)] at hne
  clear hk
  by_cases ha : ka = 0
  · rw [if_pos (.inl ha)] at hne
    obtain ⟨rfl, rfl⟩ := Prod.mk.inj hne
    subst ha
    clear hne
    go_enter Try.func107, Try.ntmps107
    go_wp2_with (first | (go_at_call 142; refine (rformed_any _ _ _ _).mono ?_; rintro e w' ⟨rfl, rfl⟩) | (go_at_call 149; refine (rorder_any _ _ _ _ _ _ _).mono ?_; rintro e w' ⟨rfl, rfl⟩) | (go_at_call 150; refine (rtruth_any _ _).mono ?_; rintro e w' ⟨rfl, rfl⟩))
    go_ret2
    exact ⟨rfl, bel _ (bel _ (bel _ (bel _ (Below.refl _ _))))⟩
  have ea : (ka == 0) = false := beq_eq_false_iff_ne.2 ha
  by_cases hb : kb = 0
  · rw [if_pos (.inr hb)] at hne
    obtain ⟨rfl, rfl⟩ := Prod.mk.inj hne
    subst hb
    clear hne
    go_enter Try.func107, Try.ntmps107
    go_wp2_with (first | (go_at_call 142; refine (rformed_any _ _ _ _).mono ?_; rintro e w' ⟨rfl, rfl⟩) | (go_at_call 149; refine (rorder_any _ _ _ _ _ _ _).mono ?_; rintro e w' ⟨rfl, rfl⟩) | (go_at_call 150; refine (rtruth_any _ _).mono ?_; rintro e w' ⟨rfl, rfl⟩))
    go_ret2
    exact ⟨rfl, bel _ (bel _ (bel _ (bel _ (Below.refl _ _))))⟩
  have eb : (kb == 0) = false := beq_eq_false_iff_ne.2 hb
  rw [if_neg (by simp [ha, hb])] at hne
  by_cases hab : ka = kb
  · rw [if_pos hab, sg4] at hne
    obtain ⟨rfl, rfl⟩ := Prod.mk.inj hne
    subst hab
    clear hne eb hb
    go_enter Try.func107, Try.ntmps107
    go_wp2_with (first | (go_at_call 142; refine (rformed_any _ _ _ _).mono ?_; rintro e w' ⟨rfl, rfl⟩) | (go_at_call 149; refine (rorder_any _ _ _ _ _ _ _).mono ?_; rintro e w' ⟨rfl, rfl⟩) | (go_at_call 150; refine (rtruth_any _ _).mono ?_; rintro e w' ⟨rfl, rfl⟩))
    go_ret2
    exact ⟨rfl, bel _ (bel _ (bel _ (bel _ (bel _ (bel _ (Below.refl _ _))))))⟩
  · rw [if_neg hab] at hne
    obtain ⟨rfl, rfl⟩ := Prod.mk.inj hne
    have ec : (ka != kb) = true := bne_iff_ne.2 hab
    clear hne
    go_enter Try.func107, Try.ntmps107
    go_wp2_with (first | (go_at_call 142; refine (rformed_any _ _ _ _).mono ?_; rintro e w' ⟨rfl, rfl⟩) | (go_at_call 149; refine (rorder_any _ _ _ _ _ _ _).mono ?_; rintro e w' ⟨rfl, rfl⟩) | (go_at_call 150; refine (rtruth_any _ _).mono ?_; rintro e w' ⟨rfl, rfl⟩))
    go_ret2
    exact ⟨rfl, bel _ (bel _ (bel _ (bel _ (Below.refl _ _))))⟩
set_option maxHeartbeats 2000000 in
theorem rcompare4 (ka na : Int) (sa : ByteArray) (kb nb : Int) (sb : ByteArray) (n e : Int) (hne : cmpF ⟨#[62]⟩ ka na sa kb nb sb = (n, e)) (w : World) :
    Calls Try.prog 107 #[.string ⟨#[62]⟩, .agg #[.int .i64 ka, .int .i64 na, .string sa], .agg #[.int .i64 kb, .int .i64 nb, .string sb]] w
      fun x w' => x = .returned (.tuple #[.int .i64 n, .int .i64 e]) ∧ Below w.heap.size w w' := by
  unfold cmpF at hne
  have hk : knownB ⟨#[62]⟩ = true := by decide +kernel
  rcases hfa : formedB ka na sa with _ | _
  · rw [if_pos (.inr (.inl hfa))] at hne
    obtain ⟨rfl, rfl⟩ := Prod.mk.inj hne
    clear hne hk
    go_enter Try.func107, Try.ntmps107
    go_wp2_with (first | (go_at_call 142; refine (rformed_any _ _ _ _).mono ?_; rintro e w' ⟨rfl, rfl⟩) | (go_at_call 149; refine (rorder_any _ _ _ _ _ _ _).mono ?_; rintro e w' ⟨rfl, rfl⟩) | (go_at_call 150; refine (rtruth_any _ _).mono ?_; rintro e w' ⟨rfl, rfl⟩))
    go_ret2
    exact ⟨rfl, bel _ (bel _ (bel _ (Below.refl _ _)))⟩
  rcases hfb : formedB kb nb sb with _ | _
  · rw [if_pos (.inr (.inr hfb))] at hne
    obtain ⟨rfl, rfl⟩ := Prod.mk.inj hne
    clear hne hk
    go_enter Try.func107, Try.ntmps107
    go_wp2_with (first | (go_at_call 142; refine (rformed_any _ _ _ _).mono ?_; rintro e w' ⟨rfl, rfl⟩) | (go_at_call 149; refine (rorder_any _ _ _ _ _ _ _).mono ?_; rintro e w' ⟨rfl, rfl⟩) | (go_at_call 150; refine (rtruth_any _ _).mono ?_; rintro e w' ⟨rfl, rfl⟩))
    go_ret2
    exact ⟨rfl, bel _ (bel _ (bel _ (bel _ (Below.refl _ _))))⟩
  rw [if_neg (by rw [hk, hfa, hfb]; simp)] at hne
  clear hk
  by_cases ha : ka = 0
  · rw [if_pos (.inl ha)] at hne
    obtain ⟨rfl, rfl⟩ := Prod.mk.inj hne
    subst ha
    clear hne
    go_enter Try.func107, Try.ntmps107
    go_wp2_with (first | (go_at_call 142; refine (rformed_any _ _ _ _).mono ?_; rintro e w' ⟨rfl, rfl⟩) | (go_at_call 149; refine (rorder_any _ _ _ _ _ _ _).mono ?_; rintro e w' ⟨rfl, rfl⟩) | (go_at_call 150; refine (rtruth_any _ _).mono ?_; rintro e w' ⟨rfl, rfl⟩))
    go_ret2
    exact ⟨rfl, bel _ (bel _ (bel _ (bel _ (Below.refl _ _))))⟩
  have ea : (ka == 0) = false := beq_eq_false_iff_ne.2 ha
  by_cases hb : kb = 0
  · rw [if_pos (.inr hb)] at hne
    obtain ⟨rfl, rfl⟩ := Prod.mk.inj hne
    subst hb
    clear hne
    go_enter Try.func107, Try.ntmps107
    go_wp2_with (first | (go_at_call 142; refine (rformed_any _ _ _ _).mono ?_; rintro e w' ⟨rfl, rfl⟩) | (go_at_call 149; refine (rorder_any _ _ _ _ _ _ _).mono ?_; rintro e w' ⟨rfl, rfl⟩) | (go_at_call 150; refine (rtruth_any _ _).mono ?_; rintro e w' ⟨rfl, rfl⟩))
    go_ret2
    exact ⟨rfl, bel _ (bel _ (bel _ (bel _ (Below.refl _ _))))⟩
  have eb : (kb == 0) = false := beq_eq_false_iff_ne.2 hb
  rw [if_neg (by simp [ha, hb])] at hne
  by_cases hab : ka = kb
  · rw [if_pos hab, sg5] at hne
    obtain ⟨rfl, rfl⟩ := Prod.mk.inj hne
    subst hab
    clear hne eb hb
    go_enter Try.func107, Try.ntmps107
    go_wp2_with (first | (go_at_call 142; refine (rformed_any _ _ _ _).mono ?_; rintro e w' ⟨rfl, rfl⟩) | (go_at_call 149; refine (rorder_any _ _ _ _ _ _ _).mono ?_; rintro e w' ⟨rfl, rfl⟩) | (go_at_call 150; refine (rtruth_any _ _).mono ?_; rintro e w' ⟨rfl, rfl⟩))
    go_ret2
    exact ⟨rfl, bel _ (bel _ (bel _ (bel _ (bel _ (bel _ (Below.refl _ _))))))⟩
  · rw [if_neg hab] at hne
    obtain ⟨rfl, rfl⟩ := Prod.mk.inj hne
    have ec : (ka != kb) = true := bne_iff_ne.2 hab
    clear hne
    go_enter Try.func107, Try.ntmps107
    go_wp2_with (first | (go_at_call 142; refine (rformed_any _ _ _ _).mono ?_; rintro e w' ⟨rfl, rfl⟩) | (go_at_call 149; refine (rorder_any _ _ _ _ _ _ _).mono ?_; rintro e w' ⟨rfl, rfl⟩) | (go_at_call 150; refine (rtruth_any _ _).mono ?_; rintro e w' ⟨rfl, rfl⟩))
    go_ret2
    exact ⟨rfl, bel _ (bel _ (bel _ (bel _ (Below.refl _ _))))⟩
set_option maxHeartbeats 2000000 in
theorem rcompare5 (ka na : Int) (sa : ByteArray) (kb nb : Int) (sb : ByteArray) (n e : Int) (hne : cmpF ⟨#[62, 61]⟩ ka na sa kb nb sb = (n, e)) (w : World) :
    Calls Try.prog 107 #[.string ⟨#[62, 61]⟩, .agg #[.int .i64 ka, .int .i64 na, .string sa], .agg #[.int .i64 kb, .int .i64 nb, .string sb]] w
      fun x w' => x = .returned (.tuple #[.int .i64 n, .int .i64 e]) ∧ Below w.heap.size w w' := by
  unfold cmpF at hne
  have hk : knownB ⟨#[62, 61]⟩ = true := by decide +kernel
  rcases hfa : formedB ka na sa with _ | _
  · rw [if_pos (.inr (.inl hfa))] at hne
    obtain ⟨rfl, rfl⟩ := Prod.mk.inj hne
    clear hne hk
    go_enter Try.func107, Try.ntmps107
    go_wp2_with (first | (go_at_call 142; refine (rformed_any _ _ _ _).mono ?_; rintro e w' ⟨rfl, rfl⟩) | (go_at_call 149; refine (rorder_any _ _ _ _ _ _ _).mono ?_; rintro e w' ⟨rfl, rfl⟩) | (go_at_call 150; refine (rtruth_any _ _).mono ?_; rintro e w' ⟨rfl, rfl⟩))
    go_ret2
    exact ⟨rfl, bel _ (bel _ (bel _ (Below.refl _ _)))⟩
  rcases hfb : formedB kb nb sb with _ | _
  · rw [if_pos (.inr (.inr hfb))] at hne
    obtain ⟨rfl, rfl⟩ := Prod.mk.inj hne
    clear hne hk
    go_enter Try.func107, Try.ntmps107
    go_wp2_with (first | (go_at_call 142; refine (rformed_any _ _ _ _).mono ?_; rintro e w' ⟨rfl, rfl⟩) | (go_at_call 149; refine (rorder_any _ _ _ _ _ _ _).mono ?_; rintro e w' ⟨rfl, rfl⟩) | (go_at_call 150; refine (rtruth_any _ _).mono ?_; rintro e w' ⟨rfl, rfl⟩))
    go_ret2
    exact ⟨rfl, bel _ (bel _ (bel _ (bel _ (Below.refl _ _))))⟩
  rw [if_neg (by rw [hk, hfa, hfb]; simp)] at hne
  clear hk
  by_cases ha : ka = 0
  · rw [if_pos (.inl ha)] at hne
    obtain ⟨rfl, rfl⟩ := Prod.mk.inj hne
    subst ha
    clear hne
    go_enter Try.func107, Try.ntmps107
    go_wp2_with (first | (go_at_call 142; refine (rformed_any _ _ _ _).mono ?_; rintro e w' ⟨rfl, rfl⟩) | (go_at_call 149; refine (rorder_any _ _ _ _ _ _ _).mono ?_; rintro e w' ⟨rfl, rfl⟩) | (go_at_call 150; refine (rtruth_any _ _).mono ?_; rintro e w' ⟨rfl, rfl⟩))
    go_ret2
    exact ⟨rfl, bel _ (bel _ (bel _ (bel _ (Below.refl _ _))))⟩
  have ea : (ka == 0) = false := beq_eq_false_iff_ne.2 ha
  by_cases hb : kb = 0
  · rw [if_pos (.inr hb)] at hne
    obtain ⟨rfl, rfl⟩ := Prod.mk.inj hne
    subst hb
    clear hne
    go_enter Try.func107, Try.ntmps107
    go_wp2_with (first | (go_at_call 142; refine (rformed_any _ _ _ _).mono ?_; rintro e w' ⟨rfl, rfl⟩) | (go_at_call 149; refine (rorder_any _ _ _ _ _ _ _).mono ?_; rintro e w' ⟨rfl, rfl⟩) | (go_at_call 150; refine (rtruth_any _ _).mono ?_; rintro e w' ⟨rfl, rfl⟩))
    go_ret2
    exact ⟨rfl, bel _ (bel _ (bel _ (bel _ (Below.refl _ _))))⟩
  have eb : (kb == 0) = false := beq_eq_false_iff_ne.2 hb
  rw [if_neg (by simp [ha, hb])] at hne
  by_cases hab : ka = kb
  · rw [if_pos hab, sg6] at hne
    obtain ⟨rfl, rfl⟩ := Prod.mk.inj hne
    subst hab
    clear hne eb hb
    go_enter Try.func107, Try.ntmps107
    go_wp2_with (first | (go_at_call 142; refine (rformed_any _ _ _ _).mono ?_; rintro e w' ⟨rfl, rfl⟩) | (go_at_call 149; refine (rorder_any _ _ _ _ _ _ _).mono ?_; rintro e w' ⟨rfl, rfl⟩) | (go_at_call 150; refine (rtruth_any _ _).mono ?_; rintro e w' ⟨rfl, rfl⟩))
    go_ret2
    exact ⟨rfl, bel _ (bel _ (bel _ (bel _ (bel _ (bel _ (Below.refl _ _))))))⟩
  · rw [if_neg hab] at hne
    obtain ⟨rfl, rfl⟩ := Prod.mk.inj hne
    have ec : (ka != kb) = true := bne_iff_ne.2 hab
    clear hne
    go_enter Try.func107, Try.ntmps107
    go_wp2_with (first | (go_at_call 142; refine (rformed_any _ _ _ _).mono ?_; rintro e w' ⟨rfl, rfl⟩) | (go_at_call 149; refine (rorder_any _ _ _ _ _ _ _).mono ?_; rintro e w' ⟨rfl, rfl⟩) | (go_at_call 150; refine (rtruth_any _ _).mono ?_; rintro e w' ⟨rfl, rfl⟩))
    go_ret2
    exact ⟨rfl, bel _ (bel _ (bel _ (bel _ (Below.refl _ _))))⟩
set_option maxHeartbeats 2000000 in
theorem rcompare_any (op : ByteArray) (ka na : Int) (sa : ByteArray) (kb nb : Int) (sb : ByteArray) (n e : Int) (hne : cmpF op ka na sa kb nb sb = (n, e)) (w : World) :
    Calls Try.prog 107 #[.string op, .agg #[.int .i64 ka, .int .i64 na, .string sa], .agg #[.int .i64 kb, .int .i64 nb, .string sb]] w
      fun x w' => x = .returned (.tuple #[.int .i64 n, .int .i64 e]) ∧ Below w.heap.size w w' := by
  rcases cop_cases op with (rfl | rfl | rfl | rfl | rfl | rfl) | ⟨h1, h2, h3, h4, h5, h6⟩
  · exact rcompare0 _ _ _ _ _ _ _ _ hne w
  · exact rcompare1 _ _ _ _ _ _ _ _ hne w
  · exact rcompare2 _ _ _ _ _ _ _ _ hne w
  · exact rcompare3 _ _ _ _ _ _ _ _ hne w
  · exact rcompare4 _ _ _ _ _ _ _ _ hne w
  · exact rcompare5 _ _ _ _ _ _ _ _ hne w
  · unfold cmpF at hne
    have hk : knownB op = false := by unfold knownB; rw [h1, h2, h3, h4, h5, h6]; rfl
    rw [if_pos (.inl hk)] at hne
    obtain ⟨rfl, rfl⟩ := Prod.mk.inj hne
    clear hne hk
    go_enter Try.func107, Try.ntmps107
    go_wp2
    go_ret2
    exact ⟨rfl, bel _ (bel _ (Below.refl _ _))⟩
end Go.Proofs.Ytplgkblahmndoaa
