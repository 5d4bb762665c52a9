/- Reckon of the document. (Turned from round 1.) -/
import Derived.Test.YtafhgilikcablaaVRecV
import Derived.RowKit
import Derived.IntWalk
import Derived.WalkKit
import Derived.WalkLawsBesides
import Derived.WalkSpells
import Derived.Outline
import Derived.BigQuiet
import Derived.Deep.QuietTactic
import Derived.StillTailTactics
import Derived.Deep.RegionHeld3
import Derived.LoopTactic
import Derived.Lib.Hide
namespace Go.Proofs.Ytafhgilikcablaa
open Go.RowKit
set_option linter.unusedVariables false
set_option linter.unusedSimpArgs false
set_option maxRecDepth 100000

set_option maxHeartbeats 2000000 in
theorem rec25add (ka na : Int) (sa : ByteArray) (kb nb : Int) (sb : ByteArray) (ha : Hid (InR na)) (hb : Hid (InR nb)) (k n e : Int) (hne : recF ⟨#[43]⟩ ka na sa kb nb sb = (k, n, e)) (w : World) :
    Calls Try.prog 111 #[.string ⟨#[43]⟩, .agg #[.int .i64 ka, .int .i64 na, .string sa], .agg #[.int .i64 kb, .int .i64 nb, .string sb]] w
      fun x w' => x = recE k n e ∧ Below w.heap.size w w' := by
  unfold recF at hne
  have hk : known3 ⟨#[43]⟩ = true := by decide +kernel
  rcases hfa : formedB ka na sa with _ | _
  · rw [if_pos (.inr (.inl hfa))] at hne
    obtain ⟨rfl, h2⟩ := Prod.mk.inj hne
    obtain ⟨rfl, rfl⟩ := Prod.mk.inj h2
    clear hne hk h2
    go_enter Try.func111, Try.ntmps111
    go_wp2_with (first | (go_at_call 139; refine (rformed_any _ _ _ _).mono ?_; rintro e w' ⟨rfl, rfl⟩) | (go_at_call 144; refine (rplus_any _ _ ha hb _).mono ?_; rintro e w' ⟨rfl, rfl⟩; unfold cutE))
    exact bodyPost_ret (v := .tuple #[.agg #[.int .i64 0, .int .i64 0, .string ⟨#[]⟩], .int .i64 1]) (by simp [results, Try.results111, go_sem]) rfl ⟨rfl, by repeat (first | exact Below.refl _ _ | refine belN _ ?_ | refine Below.drew ?_ | refine bel _ ?_ | refine Below.setCell ?_ (by dsimp only; omega) _)⟩
  rcases hfb : formedB kb nb sb with _ | _
  · rw [if_pos (.inr (.inr hfb))] at hne
    obtain ⟨rfl, h2⟩ := Prod.mk.inj hne
    obtain ⟨rfl, rfl⟩ := Prod.mk.inj h2
    clear hne hk h2
    go_enter Try.func111, Try.ntmps111
    go_wp2_with (first | (go_at_call 139; refine (rformed_any _ _ _ _).mono ?_; rintro e w' ⟨rfl, rfl⟩) | (go_at_call 144; refine (rplus_any _ _ ha hb _).mono ?_; rintro e w' ⟨rfl, rfl⟩; unfold cutE))
    exact bodyPost_ret (v := .tuple #[.agg #[.int .i64 0, .int .i64 0, .string ⟨#[]⟩], .int .i64 1]) (by simp [results, Try.results111, go_sem]) rfl ⟨rfl, by repeat (first | exact Below.refl _ _ | refine belN _ ?_ | refine Below.drew ?_ | refine bel _ ?_ | refine Below.setCell ?_ (by dsimp only; omega) _)⟩
  rw [if_neg (by rw [hk, hfa, hfb]; simp)] at hne
  clear hk
  by_cases ha2 : ka = 2
  · rw [if_pos (.inl ha2)] at hne
    obtain ⟨rfl, h2⟩ := Prod.mk.inj hne
    obtain ⟨rfl, rfl⟩ := Prod.mk.inj h2
    subst ha2
    clear hne h2
    go_enter Try.func111, Try.ntmps111
    go_wp2_with (first | (go_at_call 139; refine (rformed_any _ _ _ _).mono ?_; rintro e w' ⟨rfl, rfl⟩) | (go_at_call 144; refine (rplus_any _ _ ha hb _).mono ?_; rintro e w' ⟨rfl, rfl⟩; unfold cutE))
    exact bodyPost_ret (v := .tuple #[.agg #[.int .i64 0, .int .i64 0, .string ⟨#[]⟩], .int .i64 7]) (by simp [results, Try.results111, go_sem]) rfl ⟨rfl, by repeat (first | exact Below.refl _ _ | refine belN _ ?_ | refine Below.drew ?_ | refine bel _ ?_ | refine Below.setCell ?_ (by dsimp only; omega) _)⟩
  have ea2 : (ka == 2) = false := beq_eq_false_iff_ne.2 ha2
  by_cases hb2 : kb = 2
  · rw [if_pos (.inr hb2)] at hne
    obtain ⟨rfl, h2⟩ := Prod.mk.inj hne
    obtain ⟨rfl, rfl⟩ := Prod.mk.inj h2
    subst hb2
    clear hne h2
    go_enter Try.func111, Try.ntmps111
    go_wp2_with (first | (go_at_call 139; refine (rformed_any _ _ _ _).mono ?_; rintro e w' ⟨rfl, rfl⟩) | (go_at_call 144; refine (rplus_any _ _ ha hb _).mono ?_; rintro e w' ⟨rfl, rfl⟩; unfold cutE))
    exact bodyPost_ret (v := .tuple #[.agg #[.int .i64 0, .int .i64 0, .string ⟨#[]⟩], .int .i64 7]) (by simp [results, Try.results111, go_sem]) rfl ⟨rfl, by repeat (first | exact Below.refl _ _ | refine belN _ ?_ | refine Below.drew ?_ | refine bel _ ?_ | refine Below.setCell ?_ (by dsimp only; omega) _)⟩
  have eb2 : (kb == 2) = false := beq_eq_false_iff_ne.2 hb2
  rw [if_neg (by simp [ha2, hb2])] at hne
  by_cases ha0 : ka = 0
  · rw [if_pos (.inl ha0)] at hne
    obtain ⟨rfl, h2⟩ := Prod.mk.inj hne
    obtain ⟨rfl, rfl⟩ := Prod.mk.inj h2
    subst ha0
    clear hne h2 ha2 ea2
    go_enter Try.func111, Try.ntmps111
    go_wp2_with (first | (go_at_call 139; refine (rformed_any _ _ _ _).mono ?_; rintro e w' ⟨rfl, rfl⟩) | (go_at_call 144; refine (rplus_any _ _ ha hb _).mono ?_; rintro e w' ⟨rfl, rfl⟩; unfold cutE))
    exact bodyPost_ret (v := .tuple #[.agg #[.int .i64 0, .int .i64 0, .string ⟨#[]⟩], .int .i64 0]) (by simp [results, Try.results111, go_sem]) rfl ⟨rfl, by repeat (first | exact Below.refl _ _ | refine belN _ ?_ | refine Below.drew ?_ | refine bel _ ?_ | refine Below.setCell ?_ (by dsimp only; omega) _)⟩
  have ea0 : (ka == 0) = false := beq_eq_false_iff_ne.2 ha0
  by_cases hb0 : kb = 0
  · rw [if_pos (.inr hb0)] at hne
    obtain ⟨rfl, h2⟩ := Prod.mk.inj hne
    obtain ⟨rfl, rfl⟩ := Prod.mk.inj h2
    subst hb0
    clear hne h2 hb2 eb2
    go_enter Try.func111, Try.ntmps111
    go_wp2_with (first | (go_at_call 139; refine (rformed_any _ _ _ _).mono ?_; rintro e w' ⟨rfl, rfl⟩) | (go_at_call 144; refine (rplus_any _ _ ha hb _).mono ?_; rintro e w' ⟨rfl, rfl⟩; unfold cutE))
    exact bodyPost_ret (v := .tuple #[.agg #[.int .i64 0, .int .i64 0, .string ⟨#[]⟩], .int .i64 0]) (by simp [results, Try.results111, go_sem]) rfl ⟨rfl, by repeat (first | exact Below.refl _ _ | refine belN _ ?_ | refine Below.drew ?_ | refine bel _ ?_ | refine Below.setCell ?_ (by dsimp only; omega) _)⟩
  have eb0 : (kb == 0) = false := beq_eq_false_iff_ne.2 hb0
  rw [if_neg (by simp [ha0, hb0]), opI_add] at hne
  clear ha0 hb0 ha2 hb2
  rcases hf : fitB (na + nb) with _ | _
  · rw [if_neg (by rw [hf]; exact Bool.false_ne_true)] at hne
    obtain ⟨rfl, h2⟩ := Prod.mk.inj hne
    obtain ⟨rfl, rfl⟩ := Prod.mk.inj h2
    clear hne h2
    go_enter Try.func111, Try.ntmps111
    go_wp2_with (first | (go_at_call 139; refine (rformed_any _ _ _ _).mono ?_; rintro e w' ⟨rfl, rfl⟩) | (go_at_call 144; refine (rplus_any _ _ ha hb _).mono ?_; rintro e w' ⟨rfl, rfl⟩; unfold cutE))
    exact bodyPost_ret (v := .tuple #[.agg #[.int .i64 0, .int .i64 0, .string ⟨#[]⟩], .int .i64 13]) (by simp [results, Try.results111, go_sem]) rfl ⟨rfl, by repeat (first | exact Below.refl _ _ | refine belN _ ?_ | refine Below.drew ?_ | refine bel _ ?_ | refine Below.setCell ?_ (by dsimp only; omega) _)⟩
  · rw [if_pos hf] at hne
    obtain ⟨rfl, h2⟩ := Prod.mk.inj hne
    obtain ⟨rfl, rfl⟩ := Prod.mk.inj h2
    have HV := Lib.hid (cut_yes hf)
    clear hne h2
    rw [← HV.out]
    go_enter Try.func111, Try.ntmps111
    go_wp2_with (first | (go_at_call 139; refine (rformed_any _ _ _ _).mono ?_; rintro e w' ⟨rfl, rfl⟩) | (go_at_call 144; refine (rplus_any _ _ ha hb _).mono ?_; rintro e w' ⟨rfl, rfl⟩; unfold cutE))
    exact bodyPost_ret (v := .tuple #[.agg #[.int .i64 1, .int .i64 (cutN (na + nb)), .string ⟨#[]⟩], .int .i64 0]) (by simp [results, Try.results111, go_sem]) rfl ⟨rfl, by repeat (first | exact Below.refl _ _ | refine belN _ ?_ | refine Below.drew ?_ | refine bel _ ?_ | refine Below.setCell ?_ (by dsimp only; omega) _)⟩
set_option maxHeartbeats 2000000 in
theorem rec25sub (ka na : Int) (sa : ByteArray) (kb nb : Int) (sb : ByteArray) (ha : Hid (InR na)) (hb : Hid (InR nb)) (k n e : Int) (hne : recF ⟨#[45]⟩ ka na sa kb nb sb = (k, n, e)) (w : World) :
    Calls Try.prog 111 #[.string ⟨#[45]⟩, .agg #[.int .i64 ka, .int .i64 na, .string sa], .agg #[.int .i64 kb, .int .i64 nb, .string sb]] w
      fun x w' => x = recE k n e ∧ Below w.heap.size w w' := by
  unfold recF at hne
  have hk : known3 ⟨#[45]⟩ = true := by decide +kernel
  rcases hfa : formedB ka na sa with _ | _
  · rw [if_pos (.inr (.inl hfa))] at hne
    obtain ⟨rfl, h2⟩ := Prod.mk.inj hne
    obtain ⟨rfl, rfl⟩ := Prod.mk.inj h2
    clear hne hk h2
    go_enter Try.func111, Try.ntmps111
    go_wp2_with (first | (go_at_call 139; refine (rformed_any _ _ _ _).mono ?_; rintro e w' ⟨rfl, rfl⟩) | (go_at_call 144; refine (rplus_any _ _ ha hb _).mono ?_; rintro e w' ⟨rfl, rfl⟩; unfold cutE) | (go_at_call 145; refine (rminus_any _ _ ha hb _).mono ?_; rintro e w' ⟨rfl, rfl⟩; unfold cutE))
    exact bodyPost_ret (v := .tuple #[.agg #[.int .i64 0, .int .i64 0, .string ⟨#[]⟩], .int .i64 1]) (by simp [results, Try.results111, go_sem]) rfl ⟨rfl, by repeat (first | exact Below.refl _ _ | refine belN _ ?_ | refine Below.drew ?_ | refine bel _ ?_ | refine Below.setCell ?_ (by dsimp only; omega) _)⟩
  rcases hfb : formedB kb nb sb with _ | _
  · rw [if_pos (.inr (.inr hfb))] at hne
    obtain ⟨rfl, h2⟩ := Prod.mk.inj hne
    obtain ⟨rfl, rfl⟩ := Prod.mk.inj h2
    clear hne hk h2
    go_enter Try.func111, Try.ntmps111
    go_wp2_with (first | (go_at_call 139; refine (rformed_any _ _ _ _).mono ?_; rintro e w' ⟨rfl, rfl⟩) | (go_at_call 144; refine (rplus_any _ _ ha hb _).mono ?_; rintro e w' ⟨rfl, rfl⟩; unfold cutE) | (go_at_call 145; refine (rminus_any _ _ ha hb _).mono ?_; rintro e w' ⟨rfl, rfl⟩; unfold cutE))
    exact bodyPost_ret (v := .tuple #[.agg #[.int .i64 0, .int .i64 0, .string ⟨#[]⟩], .int .i64 1]) (by simp [results, Try.results111, go_sem]) rfl ⟨rfl, by repeat (first | exact Below.refl _ _ | refine belN _ ?_ | refine Below.drew ?_ | refine bel _ ?_ | refine Below.setCell ?_ (by dsimp only; omega) _)⟩
  rw [if_neg (by rw [hk, hfa, hfb]; simp)] at hne
  clear hk
  by_cases ha2 : ka = 2
  · rw [if_pos (.inl ha2)] at hne
    obtain ⟨rfl, h2⟩ := Prod.mk.inj hne
    obtain ⟨rfl, rfl⟩ := Prod.mk.inj h2
    subst ha2
    clear hne h2
    go_enter Try.func111, Try.ntmps111
    go_wp2_with (first | (go_at_call 139; refine (rformed_any _ _ _ _).mono ?_; rintro e w' ⟨rfl, rfl⟩) | (go_at_call 144; refine (rplus_any _ _ ha hb _).mono ?_; rintro e w' ⟨rfl, rfl⟩; unfold cutE) | (go_at_call 145; refine (rminus_any _ _ ha hb _).mono ?_; rintro e w' ⟨rfl, rfl⟩; unfold cutE))
    exact bodyPost_ret (v := .tuple #[.agg #[.int .i64 0, .int .i64 0, .string ⟨#[]⟩], .int .i64 7]) (by simp [results, Try.results111, go_sem]) rfl ⟨rfl, by repeat (first | exact Below.refl _ _ | refine belN _ ?_ | refine Below.drew ?_ | refine bel _ ?_ | refine Below.setCell ?_ (by dsimp only; omega) _)⟩
  have ea2 : (ka == 2) = false := beq_eq_false_iff_ne.2 ha2
  by_cases hb2 : kb = 2
  · rw [if_pos (.inr hb2)] at hne
    obtain ⟨rfl, h2⟩ := Prod.mk.inj hne
    obtain ⟨rfl, rfl⟩ := Prod.mk.inj h2
    subst hb2
    clear hne h2
    go_enter Try.func111, Try.ntmps111
    go_wp2_with (first | (go_at_call 139; refine (rformed_any _ _ _ _).mono ?_; rintro e w' ⟨rfl, rfl⟩) | (go_at_call 144; refine (rplus_any _ _ ha hb _).mono ?_; rintro e w' ⟨rfl, rfl⟩; unfold cutE) | (go_at_call 145; refine (rminus_any _ _ ha hb _).mono ?_; rintro e w' ⟨rfl, rfl⟩; unfold cutE))
    exact bodyPost_ret (v := .tuple #[.agg #[.int .i64 0, .int .i64 0, .string ⟨#[]⟩], .int .i64 7]) (by simp [results, Try.results111, go_sem]) rfl ⟨rfl, by repeat (first | exact Below.refl _ _ | refine belN _ ?_ | refine Below.drew ?_ | refine bel _ ?_ | refine Below.setCell ?_ (by dsimp only; omega) _)⟩
  have eb2 : (kb == 2) = false := beq_eq_false_iff_ne.2 hb2
  rw [if_neg (by simp [ha2, hb2])] at hne
  by_cases ha0 : ka = 0
  · rw [if_pos (.inl ha0)] at hne
    obtain ⟨rfl, h2⟩ := Prod.mk.inj hne
    obtain ⟨rfl, rfl⟩ := Prod.mk.inj h2
    subst ha0
    clear hne h2 ha2 ea2
    go_enter Try.func111, Try.ntmps111
    go_wp2_with (first | (go_at_call 139; refine (rformed_any _ _ _ _).mono ?_; rintro e w' ⟨rfl, rfl⟩) | (go_at_call 144; refine (rplus_any _ _ ha hb _).mono ?_; rintro e w' ⟨rfl, rfl⟩; unfold cutE) | (go_at_call 145; refine (rminus_any _ _ ha hb _).mono ?_; rintro e w' ⟨rfl, rfl⟩; unfold cutE))
    exact bodyPost_ret (v := .tuple #[.agg #[.int .i64 0, .int .i64 0, .string ⟨#[]⟩], .int .i64 0]) (by simp [results, Try.results111, go_sem]) rfl ⟨rfl, by repeat (first | exact Below.refl _ _ | refine belN _ ?_ | refine Below.drew ?_ | refine bel _ ?_ | refine Below.setCell ?_ (by dsimp only; omega) _)⟩
  have ea0 : (ka == 0) = false := beq_eq_false_iff_ne.2 ha0
  by_cases hb0 : kb = 0
  · rw [if_pos (.inr hb0)] at hne
    obtain ⟨rfl, h2⟩ := Prod.mk.inj hne
    obtain ⟨rfl, rfl⟩ := Prod.mk.inj h2
    subst hb0
    clear hne h2 hb2 eb2
    go_enter Try.func111, Try.ntmps111
    go_wp2_with (first | (go_at_call 139; refine (rformed_any _ _ _ _).mono ?_; rintro e w' ⟨rfl, rfl⟩) | (go_at_call 144; refine (rplus_any _ _ ha hb _).mono ?_; rintro e w' ⟨rfl, rfl⟩; unfold cutE) | (go_at_call 145; refine (rminus_any _ _ ha hb _).mono ?_; rintro e w' ⟨rfl, rfl⟩; unfold cutE))
    exact bodyPost_ret (v := .tuple #[.agg #[.int .i64 0, .int .i64 0, .string ⟨#[]⟩], .int .i64 0]) (by simp [results, Try.results111, go_sem]) rfl ⟨rfl, by repeat (first | exact Below.refl _ _ | refine belN _ ?_ | refine Below.drew ?_ | refine bel _ ?_ | refine Below.setCell ?_ (by dsimp only; omega) _)⟩
  have eb0 : (kb == 0) = false := beq_eq_false_iff_ne.2 hb0
  rw [if_neg (by simp [ha0, hb0]), opI_sub] at hne
  clear ha0 hb0 ha2 hb2
  rcases hf : fitB (na - nb) with _ | _
  · rw [if_neg (by rw [hf]; exact Bool.false_ne_true)] at hne
    obtain ⟨rfl, h2⟩ := Prod.mk.inj hne
    obtain ⟨rfl, rfl⟩ := Prod.mk.inj h2
    clear hne h2
    go_enter Try.func111, Try.ntmps111
    go_wp2_with (first | (go_at_call 139; refine (rformed_any _ _ _ _).mono ?_; rintro e w' ⟨rfl, rfl⟩) | (go_at_call 144; refine (rplus_any _ _ ha hb _).mono ?_; rintro e w' ⟨rfl, rfl⟩; unfold cutE) | (go_at_call 145; refine (rminus_any _ _ ha hb _).mono ?_; rintro e w' ⟨rfl, rfl⟩; unfold cutE))
    exact bodyPost_ret (v := .tuple #[.agg #[.int .i64 0, .int .i64 0, .string ⟨#[]⟩], .int .i64 13]) (by simp [results, Try.results111, go_sem]) rfl ⟨rfl, by repeat (first | exact Below.refl _ _ | refine belN _ ?_ | refine Below.drew ?_ | refine bel _ ?_ | refine Below.setCell ?_ (by dsimp only; omega) _)⟩
  · rw [if_pos hf] at hne
    obtain ⟨rfl, h2⟩ := Prod.mk.inj hne
    obtain ⟨rfl, rfl⟩ := Prod.mk.inj h2
    have HV := Lib.hid (cut_yes hf)
    clear hne h2
    rw [← HV.out]
    go_enter Try.func111, Try.ntmps111
    go_wp2_with (first | (go_at_call 139; refine (rformed_any _ _ _ _).mono ?_; rintro e w' ⟨rfl, rfl⟩) | (go_at_call 144; refine (rplus_any _ _ ha hb _).mono ?_; rintro e w' ⟨rfl, rfl⟩; unfold cutE) | (go_at_call 145; refine (rminus_any _ _ ha hb _).mono ?_; rintro e w' ⟨rfl, rfl⟩; unfold cutE))
    exact bodyPost_ret (v := .tuple #[.agg #[.int .i64 1, .int .i64 (cutN (na - nb)), .string ⟨#[]⟩], .int .i64 0]) (by simp [results, Try.results111, go_sem]) rfl ⟨rfl, by repeat (first | exact Below.refl _ _ | refine belN _ ?_ | refine Below.drew ?_ | refine bel _ ?_ | refine Below.setCell ?_ (by dsimp only; omega) _)⟩
set_option maxHeartbeats 2000000 in
theorem rec25mul (ka na : Int) (sa : ByteArray) (kb nb : Int) (sb : ByteArray) (ha : Hid (InR na)) (hb : Hid (InR nb)) (k n e : Int) (hne : recF ⟨#[42]⟩ ka na sa kb nb sb = (k, n, e)) (w : World) :
    Calls Try.prog 111 #[.string ⟨#[42]⟩, .agg #[.int .i64 ka, .int .i64 na, .string sa], .agg #[.int .i64 kb, .int .i64 nb, .string sb]] w
      fun x w' => x = recE k n e ∧ Below w.heap.size w w' := by
  unfold recF at hne
  have hk : known3 ⟨#[42]⟩ = true := by decide +kernel
  rcases hfa : formedB ka na sa with _ | _
  · rw [if_pos (.inr (.inl hfa))] at hne
    obtain ⟨rfl, h2⟩ := Prod.mk.inj hne
    obtain ⟨rfl, rfl⟩ := Prod.mk.inj h2
    clear hne hk h2
    go_enter Try.func111, Try.ntmps111
    go_wp2_with (first | (go_at_call 139; refine (rformed_any _ _ _ _).mono ?_; rintro e w' ⟨rfl, rfl⟩) | (go_at_call 144; refine (rplus_any _ _ ha hb _).mono ?_; rintro e w' ⟨rfl, rfl⟩; unfold cutE) | (go_at_call 146; refine (rtimes_any _ _ ha hb _).mono ?_; rintro e w' ⟨rfl, q, rfl⟩))
    exact bodyPost_ret (v := .tuple #[.agg #[.int .i64 0, .int .i64 0, .string ⟨#[]⟩], .int .i64 1]) (by simp [results, Try.results111, go_sem]) rfl ⟨rfl, by repeat (first | exact Below.refl _ _ | refine belN _ ?_ | refine Below.drew ?_ | refine bel _ ?_ | refine Below.setCell ?_ (by dsimp only; omega) _)⟩
  rcases hfb : formedB kb nb sb with _ | _
  · rw [if_pos (.inr (.inr hfb))] at hne
    obtain ⟨rfl, h2⟩ := Prod.mk.inj hne
    obtain ⟨rfl, rfl⟩ := Prod.mk.inj h2
    clear hne hk h2
    go_enter Try.func111, Try.ntmps111
    go_wp2_with (first | (go_at_call 139; refine (rformed_any _ _ _ _).mono ?_; rintro e w' ⟨rfl, rfl⟩) | (go_at_call 144; refine (rplus_any _ _ ha hb _).mono ?_; rintro e w' ⟨rfl, rfl⟩; unfold cutE) | (go_at_call 146; refine (rtimes_any _ _ ha hb _).mono ?_; rintro e w' ⟨rfl, q, rfl⟩))
    exact bodyPost_ret (v := .tuple #[.agg #[.int .i64 0, .int .i64 0, .string ⟨#[]⟩], .int .i64 1]) (by simp [results, Try.results111, go_sem]) rfl ⟨rfl, by repeat (first | exact Below.refl _ _ | refine belN _ ?_ | refine Below.drew ?_ | refine bel _ ?_ | refine Below.setCell ?_ (by dsimp only; omega) _)⟩
  rw [if_neg (by rw [hk, hfa, hfb]; simp)] at hne
  clear hk
  by_cases ha2 : ka = 2
  · rw [if_pos (.inl ha2)] at hne
    obtain ⟨rfl, h2⟩ := Prod.mk.inj hne
    obtain ⟨rfl, rfl⟩ := Prod.mk.inj h2
    subst ha2
    clear hne h2
    go_enter Try.func111, Try.ntmps111
    go_wp2_with (first | (go_at_call 139; refine (rformed_any _ _ _ _).mono ?_; rintro e w' ⟨rfl, rfl⟩) | (go_at_call 144; refine (rplus_any _ _ ha hb _).mono ?_; rintro e w' ⟨rfl, rfl⟩; unfold cutE) | (go_at_call 146; refine (rtimes_any _ _ ha hb _).mono ?_; rintro e w' ⟨rfl, q, rfl⟩))
    exact bodyPost_ret (v := .tuple #[.agg #[.int .i64 0, .int .i64 0, .string ⟨#[]⟩], .int .i64 7]) (by simp [results, Try.results111, go_sem]) rfl ⟨rfl, by repeat (first | exact Below.refl _ _ | refine belN _ ?_ | refine Below.drew ?_ | refine bel _ ?_ | refine Below.setCell ?_ (by dsimp only; omega) _)⟩
  have ea2 : (ka == 2) = false := beq_eq_false_iff_ne.2 ha2
  by_cases hb2 : kb = 2
  · rw [if_pos (.inr hb2)] at hne
    obtain ⟨rfl, h2⟩ := Prod.mk.inj hne
    obtain ⟨rfl, rfl⟩ := Prod.mk.inj h2
    subst hb2
    clear hne h2
    go_enter Try.func111, Try.ntmps111
    go_wp2_with (first | (go_at_call 139; refine (rformed_any _ _ _ _).mono ?_; rintro e w' ⟨rfl, rfl⟩) | (go_at_call 144; refine (rplus_any _ _ ha hb _).mono ?_; rintro e w' ⟨rfl, rfl⟩; unfold cutE) | (go_at_call 146; refine (rtimes_any _ _ ha hb _).mono ?_; rintro e w' ⟨rfl, q, rfl⟩))
    exact bodyPost_ret (v := .tuple #[.agg #[.int .i64 0, .int .i64 0, .string ⟨#[]⟩], .int .i64 7]) (by simp [results, Try.results111, go_sem]) rfl ⟨rfl, by repeat (first | exact Below.refl _ _ | refine belN _ ?_ | refine Below.drew ?_ | refine bel _ ?_ | refine Below.setCell ?_ (by dsimp only; omega) _)⟩
  have eb2 : (kb == 2) = false := beq_eq_false_iff_ne.2 hb2
  rw [if_neg (by simp [ha2, hb2])] at hne
  by_cases ha0 : ka = 0
  · rw [if_pos (.inl ha0)] at hne
    obtain ⟨rfl, h2⟩ := Prod.mk.inj hne
    obtain ⟨rfl, rfl⟩ := Prod.mk.inj h2
    subst ha0
    clear hne h2 ha2 ea2
    go_enter Try.func111, Try.ntmps111
    go_wp2_with (first | (go_at_call 139; refine (rformed_any _ _ _ _).mono ?_; rintro e w' ⟨rfl, rfl⟩) | (go_at_call 144; refine (rplus_any _ _ ha hb _).mono ?_; rintro e w' ⟨rfl, rfl⟩; unfold cutE) | (go_at_call 146; refine (rtimes_any _ _ ha hb _).mono ?_; rintro e w' ⟨rfl, q, rfl⟩))
    exact bodyPost_ret (v := .tuple #[.agg #[.int .i64 0, .int .i64 0, .string ⟨#[]⟩], .int .i64 0]) (by simp [results, Try.results111, go_sem]) rfl ⟨rfl, by repeat (first | exact Below.refl _ _ | refine belN _ ?_ | refine Below.drew ?_ | refine bel _ ?_ | refine Below.setCell ?_ (by dsimp only; omega) _)⟩
  have ea0 : (ka == 0) = false := beq_eq_false_iff_ne.2 ha0
  by_cases hb0 : kb = 0
  · rw [if_pos (.inr hb0)] at hne
    obtain ⟨rfl, h2⟩ := Prod.mk.inj hne
    obtain ⟨rfl, rfl⟩ := Prod.mk.inj h2
    subst hb0
    clear hne h2 hb2 eb2
    go_enter Try.func111, Try.ntmps111
    go_wp2_with (first | (go_at_call 139; refine (rformed_any _ _ _ _).mono ?_; rintro e w' ⟨rfl, rfl⟩) | (go_at_call 144; refine (rplus_any _ _ ha hb _).mono ?_; rintro e w' ⟨rfl, rfl⟩; unfold cutE) | (go_at_call 146; refine (rtimes_any _ _ ha hb _).mono ?_; rintro e w' ⟨rfl, q, rfl⟩))
    exact bodyPost_ret (v := .tuple #[.agg #[.int .i64 0, .int .i64 0, .string ⟨#[]⟩], .int .i64 0]) (by simp [results, Try.results111, go_sem]) rfl ⟨rfl, by repeat (first | exact Below.refl _ _ | refine belN _ ?_ | refine Below.drew ?_ | refine bel _ ?_ | refine Below.setCell ?_ (by dsimp only; omega) _)⟩
  have eb0 : (kb == 0) = false := beq_eq_false_iff_ne.2 hb0
  rw [if_neg (by simp [ha0, hb0]), opI_mul] at hne
  clear ha0 hb0 ha2 hb2
  rcases hf : fitB (na * nb) with _ | _
  · rw [if_neg (by rw [hf]; exact Bool.false_ne_true)] at hne
    obtain ⟨rfl, h2⟩ := Prod.mk.inj hne
    obtain ⟨rfl, rfl⟩ := Prod.mk.inj h2
    clear hne h2
    go_enter Try.func111, Try.ntmps111
    go_wp2_with (first | (go_at_call 139; refine (rformed_any _ _ _ _).mono ?_; rintro e w' ⟨rfl, rfl⟩) | (go_at_call 144; refine (rplus_any _ _ ha hb _).mono ?_; rintro e w' ⟨rfl, rfl⟩; unfold cutE) | (go_at_call 146; refine (rtimes_any _ _ ha hb _).mono ?_; rintro e w' ⟨rfl, q, rfl⟩))
    exact bodyPost_ret (v := .tuple #[.agg #[.int .i64 0, .int .i64 0, .string ⟨#[]⟩], .int .i64 13]) (by simp [results, Try.results111, go_sem]) rfl ⟨rfl, by repeat (first | exact Below.refl _ _ | refine belN _ ?_ | refine Below.drew ?_ | refine bel _ ?_ | refine Below.setCell ?_ (by dsimp only; omega) _)⟩
  · rw [if_pos hf] at hne
    obtain ⟨rfl, h2⟩ := Prod.mk.inj hne
    obtain ⟨rfl, rfl⟩ := Prod.mk.inj h2
    have HV := Lib.hid (rmulN_fit hf)
    clear hne h2
    rw [← HV.out]
    go_enter Try.func111, Try.ntmps111
    go_wp2_with (first | (go_at_call 139; refine (rformed_any _ _ _ _).mono ?_; rintro e w' ⟨rfl, rfl⟩) | (go_at_call 144; refine (rplus_any _ _ ha hb _).mono ?_; rintro e w' ⟨rfl, rfl⟩; unfold cutE) | (go_at_call 146; refine (rtimes_any _ _ ha hb _).mono ?_; rintro e w' ⟨rfl, q, rfl⟩))
    exact bodyPost_ret (v := .tuple #[.agg #[.int .i64 1, .int .i64 (rmulN na nb), .string ⟨#[]⟩], .int .i64 0]) (by simp [results, Try.results111, go_sem]) rfl ⟨rfl, by repeat (first | exact Below.refl _ _ | refine belN _ ?_ | refine Below.drew ?_ | refine bel _ ?_ | refine Below.setCell ?_ (by dsimp only; omega) _)⟩
set_option maxHeartbeats 2000000 in
theorem rec25_any (op : ByteArray) (ka na : Int) (sa : ByteArray) (kb nb : Int) (sb : ByteArray) (ha : Hid (InR na)) (hb : Hid (InR nb)) (k n e : Int) (hne : recF op ka na sa kb nb sb = (k, n, e)) (w : World) :
    Calls Try.prog 111 #[.string op, .agg #[.int .i64 ka, .int .i64 na, .string sa], .agg #[.int .i64 kb, .int .i64 nb, .string sb]] w
      fun x w' => x = recE k n e ∧ Below w.heap.size w w' := by
  rcases op3_cases op with (rfl | rfl | rfl) | ⟨h1, h2, h3, h4, h5, h6⟩
  · exact rec25add _ _ _ _ _ _ ha hb _ _ _ hne w
  · exact rec25sub _ _ _ _ _ _ ha hb _ _ _ hne w
  · exact rec25mul _ _ _ _ _ _ ha hb _ _ _ hne w
  · unfold recF at hne
    have hk : known3 op = false := by unfold known3; rw [h1, h2, h3]; rfl
    rw [if_pos (.inl hk)] at hne
    obtain ⟨rfl, h2'⟩ := Prod.mk.inj hne
    obtain ⟨rfl, rfl⟩ := Prod.mk.inj h2'
    clear hne hk h2'
    go_enter Try.func111, Try.ntmps111
    go_wp2
    exact bodyPost_ret (v := .tuple #[.agg #[.int .i64 0, .int .i64 0, .string ⟨#[]⟩], .int .i64 1]) (by simp [results, Try.results111, go_sem]) rfl ⟨rfl, by repeat (first | exact Below.refl _ _ | refine belN _ ?_ | refine Below.drew ?_ | refine bel _ ?_ | refine Below.setCell ?_ (by dsimp only; omega) _)⟩
end Go.Proofs.Ytafhgilikcablaa
