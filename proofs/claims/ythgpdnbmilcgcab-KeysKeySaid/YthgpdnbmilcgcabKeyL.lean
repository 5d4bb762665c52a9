/- KeysKey: the law's walk. -/
import Derived.Test.YthgpdnbmilcgcabRKey
import Derived.Test.YthgpdnbmilcgcabKeyR3
namespace Go.Proofs.Ythgpdnbmilcgcab
open Go.RowKit
set_option linter.unusedVariables false

theorem str_nil (w : World) : (convert 24 9 (.slice none 0 0)).run Try.prog w = .ok (.string ⟨#[]⟩) w := by
  have := str_any (isB_nil w) (cb := 0) (fun _ => ⟨rfl, rfl⟩)
  rwa [show strOfNums [] = ⟨#[]⟩ from rfl] at this

set_option maxHeartbeats 1600000 in
theorem keysKey_walk (a : Option Addr) (len cap : Nat) (vs : List Val) (w : World) (hv : IsV w a len vs)
    (hr : ∀ v ∈ vs, -9223372036854775808 ≤ v.2.1 ∧ v.2.1 ≤ 9223372036854775807) :
    Calls Try.prog 3 #[.slice a len cap] w fun e w' => e = .returned (.bool true) ∧ Below w.heap.size w w' := by
  have HV := Lib.hid hv
  have hm := hv.2.1
  have hl := hv.1
  clear hv
  by_cases hbig : 1000 < len
  · have hbig' : (1000 : Int) < (len : Int) := by omega
    clear hl hbig
    go_enter Try.func3, Try.ntmps3
    go_wp2_with fail
    refine (kawake_any _).mono ?_
    rintro e w1 ⟨rfl, hb1⟩
    have HB1 := Lib.hid hb1
    clear hb1
    go_wp2_with fail
    refine (kawake_any _).mono ?_
    rintro e w2 ⟨rfl, hb2⟩
    have HB2 := Lib.hid (bt HB1.out hb2)
    clear hb2
    go_wp2
    go_ret
    exact ⟨rfl, HB2.out⟩
  have hbig' : (len : Int) ≤ 1000 := by omega
  have hsn := fun W => str_nil W
  by_cases hf : allF vs = true
  · have HOK := Lib.hid (okV_all hf hr)
    have HAll := Lib.hid (rowK_key vs (okV_all hf hr))
    have hkl := keyVs_len (okV_all hf hr)
    have hkl' : (keyVs vs).length ≤ 203000 := by omega
    clear hl hr hf hkl
    go_enter Try.func3, Try.ntmps3
    go_wp2_with fail
    refine (kawake_any _).mono ?_
    rintro e w1 ⟨rfl, hb1⟩
    have HB1 := Lib.hid hb1
    clear hb1
    go_wp2_with fail
    refine (key_good a len cap vs _ (HV.out.below HB1.out) HOK.out (by omega)).mono ?_
    rintro e w2 ⟨v2, rfl, hown2, hb2⟩
    have HB2 := Lib.hid (bt HB1.out hb2)
    have hran := keyVs_range vs
    have HO2 := Lib.hid hown2
    clear hb2 hown2
    go_wp2_with fail
    refine (rkey_good a len cap vs _ (HV.out.below HB2.out) HOK.out (by omega)).mono ?_
    rintro e w3 ⟨v3, rfl, hown3, hb3⟩
    have HB3 := Lib.hid (bt HB2.out hb3)
    obtain ⟨a2, L2, c2, rfl, hL2, i2, l2, n2, lc2, _⟩ := own_any (own_below HO2.out hb3) hran
    obtain ⟨a3, L3, c3, rfl, hL3, i3, l3, n3, lc3, _⟩ := own_any hown3 hran
    have hs2 := str_any (cb := c2) i2 n2
    have hs3 := str_any (cb := c3) i3 n3
    have HI2 := Lib.hid i2
    have HL2 := Lib.hid l2
    have HC2 := Lib.hid lc2
    have hLb : L2 ≤ 203000 := by omega
    clear hb3 hown3 HO2 hL2 hL3 i2 l2 n2 lc2 i3 l3 n3 lc3 hkl'
    generalize keyVs vs = zs at hran HAll HI2 hs2 hs3
    go_wp2_with fail
    refine (row_any a2 L2 c2 zs _ HI2.out HL2.out HC2.out (by omega)).mono ?_
    rintro e w4 ⟨hb4, hh⟩
    have HB4 := Lib.hid (bt HB3.out hb4)
    rw [HAll.out] at hh
    rcases hh with ⟨vs4, v4, h4, rfl, hown4⟩ | ⟨h4, _⟩
    · obtain rfl := Option.some.inj h4
      obtain ⟨a4, c4, rfl, hV4⟩ := own_isV hown4
      have HV4 := Lib.hid hV4
      have HVB := Lib.hid (HV.out.below HB4.out)
      generalize hL4 : vs.length = L4 at HV4 ⊢
      clear hb4 hown4 h4 hV4 hL4
      go_wp2_with fail
      refine (same_any a4 L4 c4 vs a len cap vs _ HV4.out HVB.out).mono ?_
      rintro e w5 ⟨rfl, hb5⟩
      have HB5 := Lib.hid (bt HB4.out hb5)
      rw [show decide (vs = vs) = true from decide_eq_true rfl]
      clear hb5
      go_wp2
      go_ret
      exact ⟨rfl, HB5.out⟩
    · cases h4
  · have HF := Lib.hid (show allF vs = false by simpa using hf)
    clear hl hf hr
    go_enter Try.func3, Try.ntmps3
    go_wp2_with fail
    refine (kawake_any _).mono ?_
    rintro e w1 ⟨rfl, hb1⟩
    have HB1 := Lib.hid hb1
    clear hb1
    go_wp2_with fail
    refine (key_bad a len cap vs _ (HV.out.below HB1.out) HF.out).mono ?_
    rintro e w2 ⟨rfl, hb2⟩
    have HB2 := Lib.hid (bt HB1.out hb2)
    clear hb2
    go_wp2_with fail
    refine (rkey_bad a len cap vs _ (HV.out.below HB2.out) HF.out).mono ?_
    rintro e w3 ⟨rfl, hb3⟩
    have HB3 := Lib.hid (bt HB2.out hb3)
    clear hb3
    go_wp2_with fail
    refine (row_any none 0 0 [] _ (isB_nil _) (fun x h => absurd rfl h) (Nat.le_refl _) (by omega)).mono ?_
    rintro e w4 ⟨hb4, hh⟩
    have HB4 := Lib.hid (bt HB3.out hb4)
    clear hb4
    rcases hh with ⟨vs4, v4, _, rfl, _⟩ | ⟨h4, _⟩
    · go_wp2
      go_ret
      exact ⟨rfl, HB4.out⟩
    · rw [rowK_nil] at h4; cases h4
end Go.Proofs.Ythgpdnbmilcgcab
