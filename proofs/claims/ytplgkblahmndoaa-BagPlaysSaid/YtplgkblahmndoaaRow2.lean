/- Contracts of the document's FormedRow and Same; small words on values. -/
import Derived.Test.YtplgkblahmndoaaFormW
import Derived.Test.YtplgkblahmndoaaVal0
namespace Go.Proofs.Ytplgkblahmndoaa
open Go.RowKit
set_option linter.unusedVariables false

set_option maxHeartbeats 800000 in
theorem formedRow_any (a : Option Addr) (len cap : Nat) (vs : List Val) (w : World) (hv : IsV w a len vs) :
    Calls Try.prog 113 #[.slice a len cap] w fun e w' => e = .returned (.bool (allF vs)) ∧ Below w.heap.size w w' := by
  have H := Lib.hid hv
  obtain ⟨hl, hm, _⟩ := hv
  have HL := Lib.hid hl
  clear hl
  go_enter Try.func113, Try.ntmps113
  go_wp2
  go_loopw [6] (fun i wr => ∃ k : Nat, k ≤ len ∧ i = .int .i64 k ∧ Below w.heap.size w wr ∧ Hid (allF (vs.take k) = true)) (fun i _ => len - (intOf i).toNat)
  case atStart => exact ⟨0, by omega, rfl, Below.refl _ _, Lib.hid rfl⟩
  case round =>
    obtain ⟨k, hk, rfl, hb, HK⟩ := hrel
    by_cases hlt : k < len
    · have hk1 : k < vs.length := by have := HL.out; omega
      obtain ⟨b, off, rfl, hb0, p1, p2, p3⟩ := H.out.at hb hlt
      have HB := Lib.hid hb
      clear hb
      have hk0 : (0 : Int) ≤ (k : Int) := by omega
      have hkj : (k : Int) < (len : Int) := by omega
      by_cases hf : formedV (vs.getD k noV) = true
      · have HE := Lib.hid (allF_take hk1 HK.out hf)
        clear HK hk1
        unfold formedV at hf
        generalize vs.getD k noV = x at *
        obtain ⟨xk, xn, xs⟩ := x
        dsimp only at *
        go_wp2_with (go_at_call 142; refine (rformed_any _ _ _ _).mono ?_; rintro e w' ⟨rfl, rfl⟩)
        go_roundw
        case rel =>
          refine ⟨k + 1, by omega, by go_num, ?_, HE⟩
          have := HB.out
          repeat (first | exact this | refine Below.drew ?_ | refine bel _ ?_)
        case measure => simp [intOf]; omega
      · have HE := Lib.hid (allF_no hk1 hf)
        have hf : formedV (vs.getD k noV) = false := by simpa using hf
        clear HK hk1
        unfold formedV at hf
        generalize vs.getD k noV = x at *
        obtain ⟨xk, xn, xs⟩ := x
        dsimp only at *
        go_wp2_with (go_at_call 142; refine (rformed_any _ _ _ _).mono ?_; rintro e w' ⟨rfl, rfl⟩)
        go_ret
        refine ⟨by rw [HE.out]; rfl, ?_⟩
        have := HB.out
        repeat (first | exact this | refine Below.drew ?_ | refine bel _ ?_)
    · have HE := Lib.hid (show allF vs = true by rw [← HK.out, List.take_of_length_le (by have := HL.out; omega)])
      have HB := Lib.hid hb
      obtain rfl : k = len := by omega
      clear hb HK
      go_wp2
      go_ret
      exact ⟨by rw [HE.out]; rfl, HB.out⟩

theorem same_any (a1 : Option Addr) (len1 cap1 : Nat) (v1 : List Val) (a2 : Option Addr) (len2 cap2 : Nat) (v2 : List Val) (w : World) (h1 : IsV w a1 len1 v1) (h2 : IsV w a2 len2 v2) :
    Calls Try.prog 61 #[.slice a1 len1 cap1, .slice a2 len2 cap2] w fun e w' => e = .returned (.bool (decide (v1 = v2))) ∧ Below w.heap.size w w' := by
  have H1 := Lib.hid h1
  have H2 := Lib.hid h2
  have hl1 := h1.1
  have hl2 := h2.1
  clear h1 h2
  by_cases hl : len1 = len2
  · have e1 : ((len1 : Int) == (len2 : Int)) = true := by rw [beq_iff_eq, hl]
    have HE : Hid (∀ r : Int, r = rowsF v1 v2 → (r == 0) = decide (v1 = v2)) := fun r hr => by
      subst hr
      rw [Bool.eq_iff_iff, beq_iff_eq, decide_eq_true_iff]
      exact ⟨rowsF_zero, fun h => by rw [h, rowsF_self]⟩
    clear hl1 hl2 hl
    go_enter Try.func61, Try.ntmps61
    go_wp2_with fail
    refine (rrows_any _ _ _ _ _ _ _ _ _ H1.out H2.out).mono ?_
    rintro e w1 ⟨rfl, hb⟩
    have HB := Lib.hid hb
    clear hb
    obtain ⟨r, hr⟩ : ∃ r, r = rowsF v1 v2 := ⟨_, rfl⟩
    rw [← hr]
    have HR := Lib.hid (HE.out r hr)
    clear hr HE
    go_wp2
    go_ret
    exact ⟨ret_bool HR.out, HB.out⟩
  · have e1 : ((len1 : Int) == (len2 : Int)) = false := by rw [beq_eq_false_iff_ne]; omega
    have HE := Lib.hid (show false = decide (v1 = v2) by
      symm; rw [decide_eq_false_iff_not]; intro h; apply hl; rw [← hl1, ← hl2, h])
    clear hl1 hl2 hl
    go_enter Try.func61, Try.ntmps61
    go_wp2
    go_ret
    exact ⟨ret_bool HE.out, Below.refl _ _⟩

end Go.Proofs.Ytplgkblahmndoaa
