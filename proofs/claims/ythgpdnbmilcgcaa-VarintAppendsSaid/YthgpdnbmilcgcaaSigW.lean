/- Contracts of TakeSigned (the program's and the document's), of awake; the walk of VarintTakes: every slice of bytes. -/
import Derived.Test.YthgpdnbmilcgcaaTakR
import Derived.Test.YthgpdnbmilcgcaaSigPure
import Derived.OpenShut
namespace Go.Proofs.Ythgpdnbmilcgcaa
open Go.RowKit
set_option linter.unusedVariables false

theorem endS_yes {zs : List Int} {n k : Int} (h : takeR zs = (n, k, 0)) : endS (sigR zs) = .returned (.tuple #[.int .i64 (sgF n), .int .i64 k, .int .i64 0]) := by
  unfold sigR; rw [h]; rfl
theorem endS_no {zs : List Int} (h : takeR zs = (0, 0, 2)) : endS (sigR zs) = .returned (.tuple #[.int .i64 0, .int .i64 0, .int .i64 2]) := by
  unfold sigR; rw [h]; rfl
theorem takeR_cases {zs : List Int} (hb : ∀ z ∈ zs, 0 ≤ z ∧ z ≤ 255) : (∃ n k, takeR zs = (n, k, 0) ∧ 0 ≤ n ∧ n ≤ 18446744073709551615 ∧ 0 < k ∧ k ≤ 10 ∧ k ≤ zs.length) ∨ takeR zs = (0, 0, 2) := by
  rcases takeR_bd hb with ⟨h0, h1, h2, h3, h4, h5⟩ | h
  · left; exact ⟨(takeR zs).1, (takeR zs).2.1, by rw [← h0], h1, h2, h3, h4, h5⟩
  · exact .inr h
theorem ret3 {k : IntKind} {a b c a' : Int} {k2 k3 : IntKind} (h : a = a') : Ending.returned (.tuple #[.int k a, .int k2 b, .int k3 c]) = .returned (.tuple #[.int k a', .int k2 b, .int k3 c]) := by rw [h]

set_option maxHeartbeats 400000 in
theorem takes_any (a : Option Addr) (len cap : Nat) (zs : List Int) (w : World) (h : IsB w a len zs) :
    Calls Try.prog 13 #[.slice a len cap] w fun e w' => e = endS (sigR zs) ∧ w = w' := by
  rcases takeR_cases h.mem with ⟨n, k, ht, hn0, hn1, _⟩ | ht
  · rw [endS_yes ht]
    have HT := Lib.hid ht
    have HZ := Lib.hid (zig n hn0 hn1)
    have H := Lib.hid h
    clear ht h
    go_enter Try.func13, Try.ntmps13
    go_wp2_with fail
    refine (take_any _ _ _ _ _ H.out).mono ?_
    rintro e w' ⟨rfl, rfl⟩
    rw [HT.out]
    unfold endT
    go_wp2
    go_ret3
    exact ⟨ret3 HZ.out, rfl⟩
  · rw [endS_no ht]
    have HT := Lib.hid ht
    have H := Lib.hid h
    clear ht h
    go_enter Try.func13, Try.ntmps13
    go_wp2_with fail
    refine (take_any _ _ _ _ _ H.out).mono ?_
    rintro e w' ⟨rfl, rfl⟩
    rw [HT.out]
    unfold endT
    go_wp2
    go_ret3
    exact ⟨rfl, rfl⟩

theorem sgF_odd {n : Int} (h : (n % 2 == 1) = true) : -(n / 2) - 1 = sgF n := by unfold sgF; rw [if_pos (eq_of_beq h)]
theorem sgF_even {n : Int} (h : (n % 2 == 1) = false) : n / 2 = sgF n := by unfold sgF; rw [if_neg (beq_eq_false_iff_ne.1 h)]

set_option maxHeartbeats 400000 in
theorem rtakes_any (a : Option Addr) (len cap : Nat) (zs : List Int) (w : World) (h : IsB w a len zs) :
    Calls Try.prog 17 #[.slice a len cap] w fun e w' => e = endS (sigR zs) ∧ w = w' := by
  rcases takeR_cases h.mem with ⟨n, k, ht, hn0, hn1, _⟩ | ht
  · rw [endS_yes ht]
    have HT := Lib.hid ht
    have H := Lib.hid h
    clear ht h
    go_enter Try.func17, Try.ntmps17
    go_wp2_with fail
    refine (rtake_any _ _ _ _ _ H.out).mono ?_
    rintro e w' ⟨rfl, rfl⟩
    rw [HT.out]
    unfold endT
    go_wp2
    · go_ret3
      exact ⟨ret3 (sgF_odd ‹_›), rfl⟩
    · go_ret3
      exact ⟨ret3 (sgF_even ‹_›), rfl⟩
  · rw [endS_no ht]
    have HT := Lib.hid ht
    have H := Lib.hid h
    clear ht h
    go_enter Try.func17, Try.ntmps17
    go_wp2_with fail
    refine (rtake_any _ _ _ _ _ H.out).mono ?_
    rintro e w' ⟨rfl, rfl⟩
    rw [HT.out]
    unfold endT
    go_wp2
    go_ret3
    exact ⟨rfl, rfl⟩

theorem take5 : takeR [5] = (5, 1, 0) := by decide +kernel
theorem awake_any (w : World) : Calls Try.prog 9 #[] w fun e w' => e = .returned (.bool true) ∧ Below w.heap.size w w' := by
  have HT := Lib.hid take5
  go_enter Try.func9, Try.ntmps9
  go_wp2_with fail
  refine (take_any _ _ _ [5] _ (isB_one _ _ 1 5 (by omega) (by simp [go_sem]))).mono ?_
  rintro e w' ⟨rfl, rfl⟩
  rw [HT.out]
  unfold endT
  go_wp2
  go_ret
  refine ⟨rfl, ?_⟩
  repeat (first | exact Below.refl _ _ | refine Below.drew ?_ | refine Below.alloc ?_ (Nat.le_refl _) _)

set_option maxHeartbeats 800000 in
theorem varintTakes_walk (a : Option Addr) (len cap : Nat) (zs : List Int) (w : World) (h : IsB w a len zs) (ha : ∀ x, len ≠ 0 → a = some x → x.block < w.heap.size) :
    Calls Try.prog 4 #[.slice a len cap] w fun e w' => e = .returned (.bool true) ∧ Below w.heap.size w w' := by
  obtain ⟨n, k, e, ht⟩ : ∃ n k e, takeR zs = (n, k, e) := ⟨_, _, _, rfl⟩
  obtain ⟨n2, k2, e2, hs⟩ : ∃ n k e, sigR zs = (n, k, e) := ⟨_, _, _, rfl⟩
  have HT := Lib.hid ht
  have HS := Lib.hid hs
  have H := Lib.hid h
  have HA := Lib.hid ha
  clear ht hs h ha
  go_enter Try.func4, Try.ntmps4
  go_wp2_with fail
  refine (awake_any _).mono ?_
  rintro e w1 ⟨rfl, hb1⟩
  have H1 := Lib.hid (H.out.below hb1 HA.out)
  have HB := Lib.hid hb1
  clear hb1
  go_wp2_with fail
  refine (take_any _ _ _ _ _ H1.out).mono ?_
  rintro e w' ⟨rfl, rfl⟩
  rw [HT.out]
  unfold endT
  go_wp2_with fail
  refine (rtake_any _ _ _ _ _ H1.out).mono ?_
  rintro e w' ⟨rfl, rfl⟩
  rw [HT.out]
  unfold endT
  go_wp2_with fail
  refine (takes_any _ _ _ _ _ H1.out).mono ?_
  rintro e w' ⟨rfl, rfl⟩
  rw [HS.out]
  unfold endS
  go_wp2_with fail
  refine (rtakes_any _ _ _ _ _ H1.out).mono ?_
  rintro e w' ⟨rfl, rfl⟩
  rw [HS.out]
  unfold endS
  go_wp2
  go_ret
  exact ⟨rfl, HB.out⟩

end Go.Proofs.Ythgpdnbmilcgcaa
