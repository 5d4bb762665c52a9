/- BagNil: the law's walk. -/
import Derived.Test.YtmackldddhfmjaaBAwk
namespace Go.Proofs.Ytmackldddhfmjaa
open Go.RowKit
set_option linter.unusedVariables false
set_option maxRecDepth 100000

theorem bnew2 (w : World) : Calls Try.prog 46 #[] w fun e w' => e = .returned (.pointer (some ⟨w.heap.size, 0, none⟩)) ∧ w'.cell? ⟨w.heap.size, 0, none⟩ = some (.map none) ∧ Below w.heap.size w w' := by
  refine (bnew w).mono ?_
  rintro e w' ⟨rfl, rfl⟩
  exact ⟨rfl, by simp [go_sem], bel0 _ (Below.refl _ _)⟩

set_option maxHeartbeats 3200000 in
theorem bagNil_walk (a : Option Addr) (len cap : Nat) (vs : List Val) (n : Int) (w : World) (HV : Hid (IsV w a len vs)) (HR : Hid (∀ v ∈ vs, -9223372036854775808 ≤ v.2.1 ∧ v.2.1 ≤ 9223372036854775807)) :
    Calls Try.prog 8 #[.slice a len cap, .int .i64 n] w fun e w' => e = .returned (.bool true) ∧ Below w.heap.size w w' := by
  by_cases hbig : 50 < len
  · have hbig' : (50 : Int) < (len : Int) := by omega
    clear hbig
    go_enter Try.func8, Try.ntmps8
    go_wp2_with fail
    refine (bawake_any _).mono ?_
    rintro e w1 ⟨rfl, hb1⟩
    have HB1 := Lib.hid hb1
    clear hb1
    go_wp2_with fail
    refine (bawake_any _).mono ?_
    rintro e w2 ⟨rfl, hb2⟩
    have HB2 := Lib.hid (bt HB1.out hb2)
    clear hb2
    go_wp2
    go_ret
    exact ⟨rfl, HB2.out⟩
  have hl : (len : Int) ≤ 50 := by omega
  have HL := Lib.hid (show len ≤ 1000 by omega)
  clear hbig
  go_enter Try.func8, Try.ntmps8
  go_wp2_with fail
  refine (bawake_any _).mono ?_
  rintro e w1 ⟨rfl, hb1⟩
  have HB1 := Lib.hid hb1
  clear hb1
  go_wp2_with fail
  refine (brows_nil _).mono ?_
  rintro e w2 ⟨rfl, hw⟩
  subst hw
  go_wp2_with fail
  refine (badd_nil a len cap n _).mono ?_
  rintro e w3 ⟨rfl, hw⟩
  subst hw
  go_wp2_with fail
  refine (bcount_nil a len cap vs _ (Lib.hid (HV.out.below HB1.out)) HR HL.out).mono ?_
  rintro e w4 ⟨rfl, hb4⟩
  have HB4 := Lib.hid (bt HB1.out hb4)
  clear hb4
  go_wp2_with fail
  refine (blen_nil _).mono ?_
  rintro e w5 ⟨rfl, hw⟩
  subst hw
  go_wp2_with fail
  refine (bentries_nil _).mono ?_
  rintro e w6 ⟨rfl, hw⟩
  subst hw
  go_wp2_with fail
  refine (bnew2 _).mono ?_
  rintro e w7 ⟨rfl, h7, hb7⟩
  have HB7 := Lib.hid (bt HB4.out hb7)
  clear hb7 h7
  go_wp2_with fail
  refine (bjoin_nil1 _ _).mono ?_
  rintro e w8 ⟨rfl, hw⟩
  subst hw
  go_wp2_with fail
  refine (bnew2 _).mono ?_
  rintro e w9 ⟨rfl, h9, hb9⟩
  have HB9 := Lib.hid (bt HB7.out hb9)
  clear hb9 h9
  go_wp2_with fail
  refine (bjoin_nil2 _ _).mono ?_
  rintro e w10 ⟨rfl, hw⟩
  subst hw
  go_wp2_with fail
  refine (bnew2 _).mono ?_
  rintro e w11 ⟨rfl, h11, hb11⟩
  have HB11 := Lib.hid (bt HB9.out hb11)
  have H11 := Lib.hid h11
  clear hb11 h11
  go_wp2_with fail
  refine (bsame_nil1 _ _ H11.out).mono ?_
  rintro e w12 ⟨rfl, hw⟩
  subst hw
  go_wp2_with fail
  refine (bnew2 _).mono ?_
  rintro e w13 ⟨rfl, h13, hb13⟩
  have HB13 := Lib.hid (bt HB11.out hb13)
  have H13 := Lib.hid h13
  clear hb13 h13
  go_wp2_with fail
  refine (bsame_nil2 _ _ H13.out).mono ?_
  rintro e w14 ⟨rfl, hw⟩
  subst hw
  go_wp2
  go_ret
  exact ⟨rfl, HB13.out⟩
end Go.Proofs.Ytmackldddhfmjaa
