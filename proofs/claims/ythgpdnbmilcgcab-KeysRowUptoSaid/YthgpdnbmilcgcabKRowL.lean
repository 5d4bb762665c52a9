/- KeysRow: the law's walk. -/
import Derived.Test.YthgpdnbmilcgcabRRow
namespace Go.Proofs.Ythgpdnbmilcgcab
open Go.RowKit
set_option linter.unusedVariables false

set_option maxHeartbeats 1600000 in
theorem keysRow_walk (a : Option Addr) (len cap : Nat) (zs : List Int) (w : World) (h : IsB w a len zs) (ha : ∀ x, len ≠ 0 → a = some x → x.block < w.heap.size) (hc : len ≤ cap) (hr : len ≤ 4398046511000) :
    Calls Try.prog 4 #[.slice a len cap] w fun e w' => e = .returned (.bool true) ∧ Below w.heap.size w w' := by
  have H := Lib.hid h
  have HA := Lib.hid ha
  clear h ha
  go_enter Try.func4, Try.ntmps4
  go_wp2_with fail
  refine (kawake_any _).mono ?_
  rintro e w1 ⟨rfl, hb1⟩
  have HB1 := Lib.hid hb1
  have HA1 := Lib.hid (show ∀ x, len ≠ 0 → a = some x → x.block < w1.heap.size from fun x hx hy => Nat.lt_of_lt_of_le (HA.out x hx hy) hb1.size)
  clear hb1
  go_wp2_with fail
  refine (row_any a len cap zs _ (H.out.below HB1.out HA.out) HA1.out hc hr).mono ?_
  rintro e w2 ⟨hb2, hh2⟩
  have HB2 := Lib.hid (bt HB1.out hb2)
  have HA2 := Lib.hid (show ∀ x, len ≠ 0 → a = some x → x.block < w2.heap.size from fun x hx hy => Nat.lt_of_lt_of_le (HA1.out x hx hy) hb2.size)
  rcases hh2 with ⟨vs2, v2, hR2, rfl, hown2⟩ | ⟨hR2, rfl⟩
  · have HR2 := Lib.hid hR2
    have HO2 := Lib.hid hown2
    clear hR2 hown2 hb2
    go_wp2_with fail
    refine (rrow_any a len cap zs _ (H.out.below HB2.out HA.out) HA2.out hc hr).mono ?_
    rintro e w3 ⟨hb3, hh3⟩
    have HB3 := Lib.hid (bt HB2.out hb3)
    rcases hh3 with ⟨vs3, v3, hR3, rfl, hown3⟩ | ⟨hR3, _⟩
    · obtain rfl : vs2 = vs3 := Option.some.inj (HR2.out.symm.trans hR3)
      obtain ⟨a2, c2, rfl, hV2⟩ := own_isV (own_below HO2.out hb3)
      obtain ⟨a3, c3, rfl, hV3⟩ := own_isV hown3
      have HV2 := Lib.hid hV2
      have HV3 := Lib.hid hV3
      clear hown3 HO2 HR2 hR3 hV2 hV3 hb3
      generalize hL : vs2.length = L at HV2 HV3 ⊢
      clear hL
      go_wp2_with fail
      refine (same_any a2 L c2 vs2 a3 L c3 vs2 _ HV2.out HV3.out).mono ?_
      rintro e w4 ⟨rfl, hb4⟩
      have HB4 := Lib.hid (bt HB3.out hb4)
      rw [show decide (vs2 = vs2) = true from decide_eq_true rfl]
      clear hb4
      go_wp2
      go_ret
      exact ⟨rfl, HB4.out⟩
    · rw [HR2.out] at hR3; cases hR3
  · have HR2 := Lib.hid hR2
    clear hR2 hb2
    go_wp2_with fail
    refine (rrow_any a len cap zs _ (H.out.below HB2.out HA.out) HA2.out hc hr).mono ?_
    rintro e w3 ⟨hb3, hh3⟩
    have HB3 := Lib.hid (bt HB2.out hb3)
    rcases hh3 with ⟨vs3, v3, hR3, _⟩ | ⟨hR3, rfl⟩
    · rw [HR2.out] at hR3; cases hR3
    · clear hR3 HR2 hb3
      go_wp2_with fail
      refine (same_any none 0 0 [] none 0 0 [] _ ⟨rfl, by omega, .inl rfl⟩ ⟨rfl, by omega, .inl rfl⟩).mono ?_
      rintro e w4 ⟨rfl, hb4⟩
      have HB4 := Lib.hid (bt HB3.out hb4)
      rw [show decide (([] : List Val) = []) = true from decide_eq_true rfl]
      clear hb4
      go_wp2
      go_ret
      exact ⟨rfl, HB4.out⟩
end Go.Proofs.Ythgpdnbmilcgcab
