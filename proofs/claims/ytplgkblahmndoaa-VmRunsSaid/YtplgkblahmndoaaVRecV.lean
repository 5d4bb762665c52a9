/- Reckon of the program. (Turned from round 1.) -/
import Derived.Test.YtplgkblahmndoaaVRecW
import Derived.RowKit
import Derived.IntWalk
import Derived.WalkKit
import Derived.WalkLawsBesides
import Derived.WalkSpells
import Derived.Outline
import Derived.BigQuiet
import Derived.Deep.QuietTactic
import Derived.StillTailTactics
import Derived.Deep.RegionHeld3
import Derived.LoopTactic
import Derived.Lib.Hide
namespace Go.Proofs.Ytplgkblahmndoaa
open Go.RowKit
set_option linter.unusedVariables false
set_option maxRecDepth 100000

def opI (op : ByteArray) (a b : Int) : Int := if op.toList = [43] then a + b else if op.toList = [45] then a - b else a * b
def known3 (op : ByteArray) : Bool := op.toList == [43] || op.toList == [45] || op.toList == [42]
/-- what Reckon gives: kind, number, error -/
def recF (op : ByteArray) (ka na : Int) (sa : ByteArray) (kb nb : Int) (sb : ByteArray) : Int × Int × Int :=
  if known3 op = false ∨ formedB ka na sa = false ∨ formedB kb nb sb = false then (0, 0, 1)
  else if ka = 2 ∨ kb = 2 then (0, 0, 7) else if ka = 0 ∨ kb = 0 then (0, 0, 0)
  else if fitB (opI op na nb) = true then (1, opI op na nb, 0) else (0, 0, 13)
theorem opI_add (a b : Int) : opI ⟨#[43]⟩ a b = a + b := by unfold opI; rw [if_pos (by decide +kernel)]
theorem opI_sub (a b : Int) : opI ⟨#[45]⟩ a b = a - b := by unfold opI; rw [if_neg (by decide +kernel), if_pos (by decide +kernel)]
theorem opI_mul (a b : Int) : opI ⟨#[42]⟩ a b = a * b := by unfold opI; rw [if_neg (by decide +kernel), if_neg (by decide +kernel)]
theorem op3_cases (op : ByteArray) : (op = ⟨#[43]⟩ ∨ op = ⟨#[45]⟩ ∨ op = ⟨#[42]⟩) ∨
    ((op.toList == [43]) = false ∧ (op.toList == [45]) = false ∧ (op.toList == [42]) = false ∧ (op.toList != [43]) = true ∧ (op.toList != [45]) = true ∧ (op.toList != [42]) = true) := by
  by_cases h1 : op.toList = [43]
  · exact .inl (.inl (of_toList h1))
  by_cases h2 : op.toList = [45]
  · exact .inl (.inr (.inl (of_toList h2)))
  by_cases h3 : op.toList = [42]
  · exact .inl (.inr (.inr (of_toList h3)))
  exact .inr ⟨beq_eq_false_iff_ne.2 h1, beq_eq_false_iff_ne.2 h2, beq_eq_false_iff_ne.2 h3, bne_iff_ne.2 h1, bne_iff_ne.2 h2, bne_iff_ne.2 h3⟩
theorem belN (k : Nat) {w : World} {w' : World} (h : Below w.heap.size w w') : Below w.heap.size w (w'.drewN k) := ⟨h.os, h.tape, h.output, h.size, h.block⟩
def recE (k n e : Int) : Ending := .returned (.tuple #[.agg #[.int .i64 k, .int .i64 n, .string ⟨#[]⟩], .int .i64 e])
set_option maxHeartbeats 2000000 in
theorem rec24add (ka na : Int) (sa : ByteArray) (kb nb : Int) (sb : ByteArray) (ha : Hid (InR na)) (hb : Hid (InR nb)) (k n e : Int) (hne : recF ⟨#[43]⟩ ka na sa kb nb sb = (k, n, e)) (w : World) :
    Calls Try.prog 95 #[.string ⟨#[43]⟩, .agg #[.int .i64 ka, .int .i64 na, .string sa], .agg #[.int .i64 kb, .int .i64 nb, .string sb]] w
      fun x w' => x = recE k n e ∧ Below w.heap.size w w' := by
  unfold recF at hne
  have hk : known3 ⟨#[43]⟩ = true := by decide +kernel
  rcases hfa : formedB ka na sa with _ | _
  · rw [if_pos (.inr (.inl hfa))] at hne
    obtain ⟨rfl, h2⟩ := Prod.mk.inj hne
    obtain ⟨rfl, rfl⟩ := Prod.mk.inj h2
    clear hne hk h2
    go_enter Try.func95, Try.ntmps95
    go_wp2_with (first | (go_at_call 115; refine (formed_any _ _ _ _).mono ?_; rintro e w' ⟨rfl, rfl⟩) | (go_at_call 137; refine (vadd_any _ _ ha hb _).mono ?_; rintro e w' ⟨rfl, q, rfl⟩))
    exact bodyPost_ret (v := .tuple #[.agg #[.int .i64 0, .int .i64 0, .string ⟨#[]⟩], .int .i64 1]) (by simp [results, Try.results95, go_sem]) rfl ⟨rfl, by repeat (first | exact Below.refl _ _ | refine belN _ ?_ | refine Below.drew ?_ | refine bel _ ?_ | refine Below.setCell ?_ (by dsimp only; omega) _)⟩
  rcases hfb : formedB kb nb sb with _ | _
  · rw [if_pos (.inr (.inr hfb))] at hne
    obtain ⟨rfl, h2⟩ := Prod.mk.inj hne
    obtain ⟨rfl, rfl⟩ := Prod.mk.inj h2
    clear hne hk h2
    go_enter Try.func95, Try.ntmps95
    go_wp2_with (first | (go_at_call 115; refine (formed_any _ _ _ _).mono ?_; rintro e w' ⟨rfl, rfl⟩) | (go_at_call 137; refine (vadd_any _ _ ha hb _).mono ?_; rintro e w' ⟨rfl, q, rfl⟩))
    exact bodyPost_ret (v := .tuple #[.agg #[.int .i64 0, .int .i64 0, .string ⟨#[]⟩], .int .i64 1]) (by simp [results, Try.results95, go_sem]) rfl ⟨rfl, by repeat (first | exact Below.refl _ _ | refine belN _ ?_ | refine Below.drew ?_ | refine bel _ ?_ | refine Below.setCell ?_ (by dsimp only; omega) _)⟩
  rw [if_neg (by rw [hk, hfa, hfb]; simp)] at hne
  clear hk
  by_cases ha2 : ka = 2
  · rw [if_pos (.inl ha2)] at hne
    obtain ⟨rfl, h2⟩ := Prod.mk.inj hne
    obtain ⟨rfl, rfl⟩ := Prod.mk.inj h2
    subst ha2
    clear hne h2
    go_enter Try.func95, Try.ntmps95
    go_wp2_with (first | (go_at_call 115; refine (formed_any _ _ _ _).mono ?_; rintro e w' ⟨rfl, rfl⟩) | (go_at_call 137; refine (vadd_any _ _ ha hb _).mono ?_; rintro e w' ⟨rfl, q, rfl⟩))
    exact bodyPost_ret (v := .tuple #[.agg #[.int .i64 0, .int .i64 0, .string ⟨#[]⟩], .int .i64 7]) (by simp [results, Try.results95, go_sem]) rfl ⟨rfl, by repeat (first | exact Below.refl _ _ | refine belN _ ?_ | refine Below.drew ?_ | refine bel _ ?_ | refine Below.setCell ?_ (by dsimp only; omega) _)⟩
  have ea2 : (ka == 2) = false := beq_eq_false_iff_ne.2 ha2
  by_cases hb2 : kb = 2
  · rw [if_pos (.inr hb2)] at hne
    obtain ⟨rfl, h2⟩ := Prod.mk.inj hne
    obtain ⟨rfl, rfl⟩ := Prod.mk.inj h2
    subst hb2
    clear hne h2
    go_enter Try.func95, Try.ntmps95
    go_wp2_with (first | (go_at_call 115; refine (formed_any _ _ _ _).mono ?_; rintro e w' ⟨rfl, rfl⟩) | (go_at_call 137; refine (vadd_any _ _ ha hb _).mono ?_; rintro e w' ⟨rfl, q, rfl⟩))
    exact bodyPost_ret (v := .tuple #[.agg #[.int .i64 0, .int .i64 0, .string ⟨#[]⟩], .int .i64 7]) (by simp [results, Try.results95, go_sem]) rfl ⟨rfl, by repeat (first | exact Below.refl _ _ | refine belN _ ?_ | refine Below.drew ?_ | refine bel _ ?_ | refine Below.setCell ?_ (by dsimp only; omega) _)⟩
  have eb2 : (kb == 2) = false := beq_eq_false_iff_ne.2 hb2
  rw [if_neg (by simp [ha2, hb2])] at hne
  by_cases ha0 : ka = 0
  · rw [if_pos (.inl ha0)] at hne
    obtain ⟨rfl, h2⟩ := Prod.mk.inj hne
    obtain ⟨rfl, rfl⟩ := Prod.mk.inj h2
    subst ha0
    clear hne h2 ha2 ea2
    go_enter Try.func95, Try.ntmps95
    go_wp2_with (first | (go_at_call 115; refine (formed_any _ _ _ _).mono ?_; rintro e w' ⟨rfl, rfl⟩) | (go_at_call 137; refine (vadd_any _ _ ha hb _).mono ?_; rintro e w' ⟨rfl, q, rfl⟩))
    exact bodyPost_ret (v := .tuple #[.agg #[.int .i64 0, .int .i64 0, .string ⟨#[]⟩], .int .i64 0]) (by simp [results, Try.results95, go_sem]) rfl ⟨rfl, by repeat (first | exact Below.refl _ _ | refine belN _ ?_ | refine Below.drew ?_ | refine bel _ ?_ | refine Below.setCell ?_ (by dsimp only; omega) _)⟩
  have ea0 : (ka == 0) = false := beq_eq_false_iff_ne.2 ha0
  by_cases hb0 : kb = 0
  · rw [if_pos (.inr hb0)] at hne
    obtain ⟨rfl, h2⟩ := Prod.mk.inj hne
    obtain ⟨rfl, rfl⟩ := Prod.mk.inj h2
    subst hb0
    clear hne h2 hb2 eb2
    go_enter Try.func95, Try.ntmps95
    go_wp2_with (first | (go_at_call 115; refine (formed_any _ _ _ _).mono ?_; rintro e w' ⟨rfl, rfl⟩) | (go_at_call 137; refine (vadd_any _ _ ha hb _).mono ?_; rintro e w' ⟨rfl, q, rfl⟩))
    exact bodyPost_ret (v := .tuple #[.agg #[.int .i64 0, .int .i64 0, .string ⟨#[]⟩], .int .i64 0]) (by simp [results, Try.results95, go_sem]) rfl ⟨rfl, by repeat (first | exact Below.refl _ _ | refine belN _ ?_ | refine Below.drew ?_ | refine bel _ ?_ | refine Below.setCell ?_ (by dsimp only; omega) _)⟩
  have eb0 : (kb == 0) = false := beq_eq_false_iff_ne.2 hb0
  rw [if_neg (by simp [ha0, hb0]), opI_add] at hne
  clear ha0 hb0 ha2 hb2
  rcases hf : fitB (na + nb) with _ | _
  · rw [if_neg (by rw [hf]; exact Bool.false_ne_true)] at hne
    obtain ⟨rfl, h2⟩ := Prod.mk.inj hne
    obtain ⟨rfl, rfl⟩ := Prod.mk.inj h2
    clear hne h2
    go_enter Try.func95, Try.ntmps95
    go_wp2_with (first | (go_at_call 115; refine (formed_any _ _ _ _).mono ?_; rintro e w' ⟨rfl, rfl⟩) | (go_at_call 137; refine (vadd_any _ _ ha hb _).mono ?_; rintro e w' ⟨rfl, q, rfl⟩))
    exact bodyPost_ret (v := .tuple #[.agg #[.int .i64 0, .int .i64 0, .string ⟨#[]⟩], .int .i64 13]) (by simp [results, Try.results95, go_sem]) rfl ⟨rfl, by repeat (first | exact Below.refl _ _ | refine belN _ ?_ | refine Below.drew ?_ | refine bel _ ?_ | refine Below.setCell ?_ (by dsimp only; omega) _)⟩
  · rw [if_pos hf] at hne
    obtain ⟨rfl, h2⟩ := Prod.mk.inj hne
    obtain ⟨rfl, rfl⟩ := Prod.mk.inj h2
    have HV := Lib.hid (addV_fit hf)
    clear hne h2
    rw [← HV.out]
    go_enter Try.func95, Try.ntmps95
    go_wp2_with (first | (go_at_call 115; refine (formed_any _ _ _ _).mono ?_; rintro e w' ⟨rfl, rfl⟩) | (go_at_call 137; refine (vadd_any _ _ ha hb _).mono ?_; rintro e w' ⟨rfl, q, rfl⟩))
    exact bodyPost_ret (v := .tuple #[.agg #[.int .i64 1, .int .i64 (addV na nb), .string ⟨#[]⟩], .int .i64 0]) (by simp [results, Try.results95, go_sem]) rfl ⟨rfl, by repeat (first | exact Below.refl _ _ | refine belN _ ?_ | refine Below.drew ?_ | refine bel _ ?_ | refine Below.setCell ?_ (by dsimp only; omega) _)⟩
set_option maxHeartbeats 2000000 in
theorem rec24sub (ka na : Int) (sa : ByteArray) (kb nb : Int) (sb : ByteArray) (ha : Hid (InR na)) (hb : Hid (InR nb)) (k n e : Int) (hne : recF ⟨#[45]⟩ ka na sa kb nb sb = (k, n, e)) (w : World) :
    Calls Try.prog 95 #[.string ⟨#[45]⟩, .agg #[.int .i64 ka, .int .i64 na, .string sa], .agg #[.int .i64 kb, .int .i64 nb, .string sb]] w
      fun x w' => x = recE k n e ∧ Below w.heap.size w w' := by
  unfold recF at hne
  have hk : known3 ⟨#[45]⟩ = true := by decide +kernel
  rcases hfa : formedB ka na sa with _ | _
  · rw [if_pos (.inr (.inl hfa))] at hne
    obtain ⟨rfl, h2⟩ := Prod.mk.inj hne
    obtain ⟨rfl, rfl⟩ := Prod.mk.inj h2
    clear hne hk h2
    go_enter Try.func95, Try.ntmps95
    go_wp2_with (first | (go_at_call 115; refine (formed_any _ _ _ _).mono ?_; rintro e w' ⟨rfl, rfl⟩) | (go_at_call 137; refine (vsub_any _ _ ha hb _).mono ?_; rintro e w' ⟨rfl, q, rfl⟩))
    exact bodyPost_ret (v := .tuple #[.agg #[.int .i64 0, .int .i64 0, .string ⟨#[]⟩], .int .i64 1]) (by simp [results, Try.results95, go_sem]) rfl ⟨rfl, by repeat (first | exact Below.refl _ _ | refine belN _ ?_ | refine Below.drew ?_ | refine bel _ ?_ | refine Below.setCell ?_ (by dsimp only; omega) _)⟩
  rcases hfb : formedB kb nb sb with _ | _
  · rw [if_pos (.inr (.inr hfb))] at hne
    obtain ⟨rfl, h2⟩ := Prod.mk.inj hne
    obtain ⟨rfl, rfl⟩ := Prod.mk.inj h2
    clear hne hk h2
    go_enter Try.func95, Try.ntmps95
    go_wp2_with (first | (go_at_call 115; refine (formed_any _ _ _ _).mono ?_; rintro e w' ⟨rfl, rfl⟩) | (go_at_call 137; refine (vsub_any _ _ ha hb _).mono ?_; rintro e w' ⟨rfl, q, rfl⟩))
    exact bodyPost_ret (v := .tuple #[.agg #[.int .i64 0, .int .i64 0, .string ⟨#[]⟩], .int .i64 1]) (by simp [results, Try.results95, go_sem]) rfl ⟨rfl, by repeat (first | exact Below.refl _ _ | refine belN _ ?_ | refine Below.drew ?_ | refine bel _ ?_ | refine Below.setCell ?_ (by dsimp only; omega) _)⟩
  rw [if_neg (by rw [hk, hfa, hfb]; simp)] at hne
  clear hk
  by_cases ha2 : ka = 2
  · rw [if_pos (.inl ha2)] at hne
    obtain ⟨rfl, h2⟩ := Prod.mk.inj hne
    obtain ⟨rfl, rfl⟩ := Prod.mk.inj h2
    subst ha2
    clear hne h2
    go_enter Try.func95, Try.ntmps95
    go_wp2_with (first | (go_at_call 115; refine (formed_any _ _ _ _).mono ?_; rintro e w' ⟨rfl, rfl⟩) | (go_at_call 137; refine (vsub_any _ _ ha hb _).mono ?_; rintro e w' ⟨rfl, q, rfl⟩))
    exact bodyPost_ret (v := .tuple #[.agg #[.int .i64 0, .int .i64 0, .string ⟨#[]⟩], .int .i64 7]) (by simp [results, Try.results95, go_sem]) rfl ⟨rfl, by repeat (first | exact Below.refl _ _ | refine belN _ ?_ | refine Below.drew ?_ | refine bel _ ?_ | refine Below.setCell ?_ (by dsimp only; omega) _)⟩
  have ea2 : (ka == 2) = false := beq_eq_false_iff_ne.2 ha2
  by_cases hb2 : kb = 2
  · rw [if_pos (.inr hb2)] at hne
    obtain ⟨rfl, h2⟩ := Prod.mk.inj hne
    obtain ⟨rfl, rfl⟩ := Prod.mk.inj h2
    subst hb2
    clear hne h2
    go_enter Try.func95, Try.ntmps95
    go_wp2_with (first | (go_at_call 115; refine (formed_any _ _ _ _).mono ?_; rintro e w' ⟨rfl, rfl⟩) | (go_at_call 137; refine (vsub_any _ _ ha hb _).mono ?_; rintro e w' ⟨rfl, q, rfl⟩))
    exact bodyPost_ret (v := .tuple #[.agg #[.int .i64 0, .int .i64 0, .string ⟨#[]⟩], .int .i64 7]) (by simp [results, Try.results95, go_sem]) rfl ⟨rfl, by repeat (first | exact Below.refl _ _ | refine belN _ ?_ | refine Below.drew ?_ | refine bel _ ?_ | refine Below.setCell ?_ (by dsimp only; omega) _)⟩
  have eb2 : (kb == 2) = false := beq_eq_false_iff_ne.2 hb2
  rw [if_neg (by simp [ha2, hb2])] at hne
  by_cases ha0 : ka = 0
  · rw [if_pos (.inl ha0)] at hne
    obtain ⟨rfl, h2⟩ := Prod.mk.inj hne
    obtain ⟨rfl, rfl⟩ := Prod.mk.inj h2
    subst ha0
    clear hne h2 ha2 ea2
    go_enter Try.func95, Try.ntmps95
    go_wp2_with (first | (go_at_call 115; refine (formed_any _ _ _ _).mono ?_; rintro e w' ⟨rfl, rfl⟩) | (go_at_call 137; refine (vsub_any _ _ ha hb _).mono ?_; rintro e w' ⟨rfl, q, rfl⟩))
    exact bodyPost_ret (v := .tuple #[.agg #[.int .i64 0, .int .i64 0, .string ⟨#[]⟩], .int .i64 0]) (by simp [results, Try.results95, go_sem]) rfl ⟨rfl, by repeat (first | exact Below.refl _ _ | refine belN _ ?_ | refine Below.drew ?_ | refine bel _ ?_ | refine Below.setCell ?_ (by dsimp only; omega) _)⟩
  have ea0 : (ka == 0) = false := beq_eq_false_iff_ne.2 ha0
  by_cases hb0 : kb = 0
  · rw [if_pos (.inr hb0)] at hne
    obtain ⟨rfl, h2⟩ := Prod.mk.inj hne
    obtain ⟨rfl, rfl⟩ := Prod.mk.inj h2
    subst hb0
    clear hne h2 hb2 eb2
    go_enter Try.func95, Try.ntmps95
    go_wp2_with (first | (go_at_call 115; refine (formed_any _ _ _ _).mono ?_; rintro e w' ⟨rfl, rfl⟩) | (go_at_call 137; refine (vsub_any _ _ ha hb _).mono ?_; rintro e w' ⟨rfl, q, rfl⟩))
    exact bodyPost_ret (v := .tuple #[.agg #[.int .i64 0, .int .i64 0, .string ⟨#[]⟩], .int .i64 0]) (by simp [results, Try.results95, go_sem]) rfl ⟨rfl, by repeat (first | exact Below.refl _ _ | refine belN _ ?_ | refine Below.drew ?_ | refine bel _ ?_ | refine Below.setCell ?_ (by dsimp only; omega) _)⟩
  have eb0 : (kb == 0) = false := beq_eq_false_iff_ne.2 hb0
  rw [if_neg (by simp [ha0, hb0]), opI_sub] at hne
  clear ha0 hb0 ha2 hb2
  rcases hf : fitB (na - nb) with _ | _
  · rw [if_neg (by rw [hf]; exact Bool.false_ne_true)] at hne
    obtain ⟨rfl, h2⟩ := Prod.mk.inj hne
    obtain ⟨rfl, rfl⟩ := Prod.mk.inj h2
    clear hne h2
    go_enter Try.func95, Try.ntmps95
    go_wp2_with (first | (go_at_call 115; refine (formed_any _ _ _ _).mono ?_; rintro e w' ⟨rfl, rfl⟩) | (go_at_call 137; refine (vsub_any _ _ ha hb _).mono ?_; rintro e w' ⟨rfl, q, rfl⟩))
    exact bodyPost_ret (v := .tuple #[.agg #[.int .i64 0, .int .i64 0, .string ⟨#[]⟩], .int .i64 13]) (by simp [results, Try.results95, go_sem]) rfl ⟨rfl, by repeat (first | exact Below.refl _ _ | refine belN _ ?_ | refine Below.drew ?_ | refine bel _ ?_ | refine Below.setCell ?_ (by dsimp only; omega) _)⟩
  · rw [if_pos hf] at hne
    obtain ⟨rfl, h2⟩ := Prod.mk.inj hne
    obtain ⟨rfl, rfl⟩ := Prod.mk.inj h2
    have HV := Lib.hid (subV_fit hf)
    clear hne h2
    rw [← HV.out]
    go_enter Try.func95, Try.ntmps95
    go_wp2_with (first | (go_at_call 115; refine (formed_any _ _ _ _).mono ?_; rintro e w' ⟨rfl, rfl⟩) | (go_at_call 137; refine (vsub_any _ _ ha hb _).mono ?_; rintro e w' ⟨rfl, q, rfl⟩))
    exact bodyPost_ret (v := .tuple #[.agg #[.int .i64 1, .int .i64 (subV na nb), .string ⟨#[]⟩], .int .i64 0]) (by simp [results, Try.results95, go_sem]) rfl ⟨rfl, by repeat (first | exact Below.refl _ _ | refine belN _ ?_ | refine Below.drew ?_ | refine bel _ ?_ | refine Below.setCell ?_ (by dsimp only; omega) _)⟩
set_option maxHeartbeats 2000000 in
theorem rec24mul (ka na : Int) (sa : ByteArray) (kb nb : Int) (sb : ByteArray) (ha : Hid (InR na)) (hb : Hid (InR nb)) (k n e : Int) (hne : recF ⟨#[42]⟩ ka na sa kb nb sb = (k, n, e)) (w : World) :
    Calls Try.prog 95 #[.string ⟨#[42]⟩, .agg #[.int .i64 ka, .int .i64 na, .string sa], .agg #[.int .i64 kb, .int .i64 nb, .string sb]] w
      fun x w' => x = recE k n e ∧ Below w.heap.size w w' := by
  unfold recF at hne
  have hk : known3 ⟨#[42]⟩ = true := by decide +kernel
  rcases hfa : formedB ka na sa with _ | _
  · rw [if_pos (.inr (.inl hfa))] at hne
    obtain ⟨rfl, h2⟩ := Prod.mk.inj hne
    obtain ⟨rfl, rfl⟩ := Prod.mk.inj h2
    clear hne hk h2
    go_enter Try.func95, Try.ntmps95
    go_wp2_with (first | (go_at_call 115; refine (formed_any _ _ _ _).mono ?_; rintro e w' ⟨rfl, rfl⟩) | (go_at_call 137; refine (vmul_any _ _ ha hb _).mono ?_; rintro e w' ⟨rfl, q, rfl⟩))
    exact bodyPost_ret (v := .tuple #[.agg #[.int .i64 0, .int .i64 0, .string ⟨#[]⟩], .int .i64 1]) (by simp [results, Try.results95, go_sem]) rfl ⟨rfl, by repeat (first | exact Below.refl _ _ | refine belN _ ?_ | refine Below.drew ?_ | refine bel _ ?_ | refine Below.setCell ?_ (by dsimp only; omega) _)⟩
  rcases hfb : formedB kb nb sb with _ | _
  · rw [if_pos (.inr (.inr hfb))] at hne
    obtain ⟨rfl, h2⟩ := Prod.mk.inj hne
    obtain ⟨rfl, rfl⟩ := Prod.mk.inj h2
    clear hne hk h2
    go_enter Try.func95, Try.ntmps95
    go_wp2_with (first | (go_at_call 115; refine (formed_any _ _ _ _).mono ?_; rintro e w' ⟨rfl, rfl⟩) | (go_at_call 137; refine (vmul_any _ _ ha hb _).mono ?_; rintro e w' ⟨rfl, q, rfl⟩))
    exact bodyPost_ret (v := .tuple #[.agg #[.int .i64 0, .int .i64 0, .string ⟨#[]⟩], .int .i64 1]) (by simp [results, Try.results95, go_sem]) rfl ⟨rfl, by repeat (first | exact Below.refl _ _ | refine belN _ ?_ | refine Below.drew ?_ | refine bel _ ?_ | refine Below.setCell ?_ (by dsimp only; omega) _)⟩
  rw [if_neg (by rw [hk, hfa, hfb]; simp)] at hne
  clear hk
  by_cases ha2 : ka = 2
  · rw [if_pos (.inl ha2)] at hne
    obtain ⟨rfl, h2⟩ := Prod.mk.inj hne
    obtain ⟨rfl, rfl⟩ := Prod.mk.inj h2
    subst ha2
    clear hne h2
    go_enter Try.func95, Try.ntmps95
    go_wp2_with (first | (go_at_call 115; refine (formed_any _ _ _ _).mono ?_; rintro e w' ⟨rfl, rfl⟩) | (go_at_call 137; refine (vmul_any _ _ ha hb _).mono ?_; rintro e w' ⟨rfl, q, rfl⟩))
    exact bodyPost_ret (v := .tuple #[.agg #[.int .i64 0, .int .i64 0, .string ⟨#[]⟩], .int .i64 7]) (by simp [results, Try.results95, go_sem]) rfl ⟨rfl, by repeat (first | exact Below.refl _ _ | refine belN _ ?_ | refine Below.drew ?_ | refine bel _ ?_ | refine Below.setCell ?_ (by dsimp only; omega) _)⟩
  have ea2 : (ka == 2) = false := beq_eq_false_iff_ne.2 ha2
  by_cases hb2 : kb = 2
  · rw [if_pos (.inr hb2)] at hne
    obtain ⟨rfl, h2⟩ := Prod.mk.inj hne
    obtain ⟨rfl, rfl⟩ := Prod.mk.inj h2
    subst hb2
    clear hne h2
    go_enter Try.func95, Try.ntmps95
    go_wp2_with (first | (go_at_call 115; refine (formed_any _ _ _ _).mono ?_; rintro e w' ⟨rfl, rfl⟩) | (go_at_call 137; refine (vmul_any _ _ ha hb _).mono ?_; rintro e w' ⟨rfl, q, rfl⟩))
    exact bodyPost_ret (v := .tuple #[.agg #[.int .i64 0, .int .i64 0, .string ⟨#[]⟩], .int .i64 7]) (by simp [results, Try.results95, go_sem]) rfl ⟨rfl, by repeat (first | exact Below.refl _ _ | refine belN _ ?_ | refine Below.drew ?_ | refine bel _ ?_ | refine Below.setCell ?_ (by dsimp only; omega) _)⟩
  have eb2 : (kb == 2) = false := beq_eq_false_iff_ne.2 hb2
  rw [if_neg (by simp [ha2, hb2])] at hne
  by_cases ha0 : ka = 0
  · rw [if_pos (.inl ha0)] at hne
    obtain ⟨rfl, h2⟩ := Prod.mk.inj hne
    obtain ⟨rfl, rfl⟩ := Prod.mk.inj h2
    subst ha0
    clear hne h2 ha2 ea2
    go_enter Try.func95, Try.ntmps95
    go_wp2_with (first | (go_at_call 115; refine (formed_any _ _ _ _).mono ?_; rintro e w' ⟨rfl, rfl⟩) | (go_at_call 137; refine (vmul_any _ _ ha hb _).mono ?_; rintro e w' ⟨rfl, q, rfl⟩))
    exact bodyPost_ret (v := .tuple #[.agg #[.int .i64 0, .int .i64 0, .string ⟨#[]⟩], .int .i64 0]) (by simp [results, Try.results95, go_sem]) rfl ⟨rfl, by repeat (first | exact Below.refl _ _ | refine belN _ ?_ | refine Below.drew ?_ | refine bel _ ?_ | refine Below.setCell ?_ (by dsimp only; omega) _)⟩
  have ea0 : (ka == 0) = false := beq_eq_false_iff_ne.2 ha0
  by_cases hb0 : kb = 0
  · rw [if_pos (.inr hb0)] at hne
    obtain ⟨rfl, h2⟩ := Prod.mk.inj hne
    obtain ⟨rfl, rfl⟩ := Prod.mk.inj h2
    subst hb0
    clear hne h2 hb2 eb2
    go_enter Try.func95, Try.ntmps95
    go_wp2_with (first | (go_at_call 115; refine (formed_any _ _ _ _).mono ?_; rintro e w' ⟨rfl, rfl⟩) | (go_at_call 137; refine (vmul_any _ _ ha hb _).mono ?_; rintro e w' ⟨rfl, q, rfl⟩))
    exact bodyPost_ret (v := .tuple #[.agg #[.int .i64 0, .int .i64 0, .string ⟨#[]⟩], .int .i64 0]) (by simp [results, Try.results95, go_sem]) rfl ⟨rfl, by repeat (first | exact Below.refl _ _ | refine belN _ ?_ | refine Below.drew ?_ | refine bel _ ?_ | refine Below.setCell ?_ (by dsimp only; omega) _)⟩
  have eb0 : (kb == 0) = false := beq_eq_false_iff_ne.2 hb0
  rw [if_neg (by simp [ha0, hb0]), opI_mul] at hne
  clear ha0 hb0 ha2 hb2
  rcases hf : fitB (na * nb) with _ | _
  · rw [if_neg (by rw [hf]; exact Bool.false_ne_true)] at hne
    obtain ⟨rfl, h2⟩ := Prod.mk.inj hne
    obtain ⟨rfl, rfl⟩ := Prod.mk.inj h2
    clear hne h2
    go_enter Try.func95, Try.ntmps95
    go_wp2_with (first | (go_at_call 115; refine (formed_any _ _ _ _).mono ?_; rintro e w' ⟨rfl, rfl⟩) | (go_at_call 137; refine (vmul_any _ _ ha hb _).mono ?_; rintro e w' ⟨rfl, q, rfl⟩))
    exact bodyPost_ret (v := .tuple #[.agg #[.int .i64 0, .int .i64 0, .string ⟨#[]⟩], .int .i64 13]) (by simp [results, Try.results95, go_sem]) rfl ⟨rfl, by repeat (first | exact Below.refl _ _ | refine belN _ ?_ | refine Below.drew ?_ | refine bel _ ?_ | refine Below.setCell ?_ (by dsimp only; omega) _)⟩
  · rw [if_pos hf] at hne
    obtain ⟨rfl, h2⟩ := Prod.mk.inj hne
    obtain ⟨rfl, rfl⟩ := Prod.mk.inj h2
    have HV := Lib.hid (mulN_fit hf)
    clear hne h2
    rw [← HV.out]
    go_enter Try.func95, Try.ntmps95
    go_wp2_with (first | (go_at_call 115; refine (formed_any _ _ _ _).mono ?_; rintro e w' ⟨rfl, rfl⟩) | (go_at_call 137; refine (vmul_any _ _ ha hb _).mono ?_; rintro e w' ⟨rfl, q, rfl⟩))
    exact bodyPost_ret (v := .tuple #[.agg #[.int .i64 1, .int .i64 (mulN na nb), .string ⟨#[]⟩], .int .i64 0]) (by simp [results, Try.results95, go_sem]) rfl ⟨rfl, by repeat (first | exact Below.refl _ _ | refine belN _ ?_ | refine Below.drew ?_ | refine bel _ ?_ | refine Below.setCell ?_ (by dsimp only; omega) _)⟩
set_option maxHeartbeats 2000000 in
theorem rec24_any (op : ByteArray) (ka na : Int) (sa : ByteArray) (kb nb : Int) (sb : ByteArray) (ha : Hid (InR na)) (hb : Hid (InR nb)) (k n e : Int) (hne : recF op ka na sa kb nb sb = (k, n, e)) (w : World) :
    Calls Try.prog 95 #[.string op, .agg #[.int .i64 ka, .int .i64 na, .string sa], .agg #[.int .i64 kb, .int .i64 nb, .string sb]] w
      fun x w' => x = recE k n e ∧ Below w.heap.size w w' := by
  rcases op3_cases op with (rfl | rfl | rfl) | ⟨h1, h2, h3, h4, h5, h6⟩
  · exact rec24add _ _ _ _ _ _ ha hb _ _ _ hne w
  · exact rec24sub _ _ _ _ _ _ ha hb _ _ _ hne w
  · exact rec24mul _ _ _ _ _ _ ha hb _ _ _ hne w
  · unfold recF at hne
    have hk : known3 op = false := by unfold known3; rw [h1, h2, h3]; rfl
    rw [if_pos (.inl hk)] at hne
    obtain ⟨rfl, h2'⟩ := Prod.mk.inj hne
    obtain ⟨rfl, rfl⟩ := Prod.mk.inj h2'
    clear hne hk h2'
    go_enter Try.func95, Try.ntmps95
    go_wp2
    exact bodyPost_ret (v := .tuple #[.agg #[.int .i64 0, .int .i64 0, .string ⟨#[]⟩], .int .i64 1]) (by simp [results, Try.results95, go_sem]) rfl ⟨rfl, by repeat (first | exact Below.refl _ _ | refine belN _ ?_ | refine Below.drew ?_ | refine bel _ ?_ | refine Below.setCell ?_ (by dsimp only; omega) _)⟩
end Go.Proofs.Ytplgkblahmndoaa
