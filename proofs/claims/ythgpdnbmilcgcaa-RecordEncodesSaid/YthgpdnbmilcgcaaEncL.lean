/- RecordEncodes: the law's walk. -/
import Derived.Test.YthgpdnbmilcgcaaREnc
namespace Go.Proofs.Ythgpdnbmilcgcaa
open Go.RowKit
set_option linter.unusedVariables false

theorem rencode_bad (a : Option Addr) (len cap : Nat) (vs : List Val) (w : World) (hv : IsV w a len vs) (hf : allF vs = false) :
    Calls Try.prog 20 #[.slice a len cap] w fun e w' => e = .returned (.tuple #[.slice none 0 0, .int .i64 1]) ∧ Below w.heap.size w w' := by
  have H := Lib.hid hv
  have HF := Lib.hid hf
  clear hv hf
  go_enter Try.func20, Try.ntmps20
  go_wp2_with fail
  refine (formedRow_any _ _ _ _ _ H.out).mono ?_
  rintro e w1 ⟨rfl, hb1⟩
  rw [HF.out]
  have HB1 := Lib.hid hb1
  clear hb1
  go_wp2
  go_ret2
  exact ⟨rfl, HB1.out⟩

theorem str_nil (w : World) : (convert 22 9 (.slice none 0 0)).run Try.prog w = .ok (.string ⟨#[]⟩) w := by
  have := str_any (isB_nil w) (cb := 0) (fun _ => ⟨rfl, rfl⟩)
  rwa [show strOfNums [] = ⟨#[]⟩ from rfl] at this

set_option maxHeartbeats 1600000 in
theorem recordEncodes_walk (a : Option Addr) (len cap : Nat) (vs : List Val) (w : World) (hv : IsV w a len vs)
    (hr : ∀ v ∈ vs, -9223372036854775808 ≤ v.2.1 ∧ v.2.1 ≤ 9223372036854775807) :
    Calls Try.prog 6 #[.slice a len cap] w fun e w' => e = .returned (.bool true) ∧ Below w.heap.size w w' := by
  have HV := Lib.hid hv
  have hm := hv.2.1
  have hl := hv.1
  clear hv
  by_cases hbig : 1000 < len
  · have hbig' : (1000 : Int) < (len : Int) := by omega
    clear hl hbig
    go_enter Try.func6, Try.ntmps6
    go_wp2_with fail
    refine (rawake_any _).mono ?_
    rintro e w1 ⟨rfl, hb1⟩
    have HB1 := Lib.hid hb1
    clear hb1
    go_wp2_with fail
    refine (rawake_any _).mono ?_
    rintro e w2 ⟨rfl, hb2⟩
    have HB2 := Lib.hid (bt HB1.out hb2)
    clear hb2
    go_wp2
    go_ret
    exact ⟨rfl, HB2.out⟩
  have hbig' : (len : Int) ≤ 1000 := by omega
  have HDec := Lib.hid (dec_e (zs := []) rfl)
  have hsn := fun W => str_nil W
  by_cases hf : allF vs = true
  · have HOK := Lib.hid (okV_all hf hr)
    have HAll := Lib.hid (decR_enc vs (okV_all hf hr) (by omega))
    clear hl hr hf
    go_enter Try.func6, Try.ntmps6
    go_wp2_with fail
    refine (rawake_any _).mono ?_
    rintro e w1 ⟨rfl, hb1⟩
    have HB1 := Lib.hid hb1
    clear hb1
    go_wp2_with fail
    refine (encode_good a len cap vs _ (HV.out.below HB1.out) HOK.out (by omega)).mono ?_
    rintro e w2 hh2
    rcases hh2 with ⟨hl2, rfl, hb2⟩ | ⟨hl2, v2, rfl, hown2, hb2⟩
    · have HB2 := Lib.hid (bt HB1.out hb2)
      have HL2 := Lib.hid hl2
      clear hb2 hl2
      go_wp2_with fail
      refine (rencode_good a len cap vs _ (HV.out.below HB2.out) HOK.out (by omega)).mono ?_
      rintro e w3 (⟨_, rfl, hb3⟩ | ⟨hl3, _⟩)
      · have HB3 := Lib.hid (bt HB2.out hb3)
        clear hb3
        go_wp2_with fail
        refine (decode_any none 0 0 [] _ (isB_nil _) (fun x h => absurd rfl h) (fun _ => ⟨rfl, rfl⟩) (Nat.le_refl _) (.inr (by omega))).mono ?_
        rintro e w4 ⟨hb4, hh⟩
        rw [HDec.out] at hh
        rcases hh with ⟨_, _, _, hh, _⟩ | ⟨_, rfl⟩
        · cases hh
        · have HB4 := Lib.hid (bt HB3.out hb4)
          clear hb4
          go_wp2
          go_ret
          exact ⟨rfl, HB4.out⟩
      · have := HL2.out; omega
    · have HB2 := Lib.hid (bt HB1.out hb2)
      have hpos := encR_pos vs
      have hran := encR_range vs
      obtain ⟨g2, c2, rfl⟩ := own_addr hown2 (by omega)
      have HO2 := Lib.hid hown2
      clear hb2 hown2
      go_wp2_with fail
      refine (rencode_good a len cap vs _ (HV.out.below HB2.out) HOK.out (by omega)).mono ?_
      rintro e w3 (⟨hl3, _⟩ | ⟨_, v3, rfl, hown3, hb3⟩)
      · omega
      · obtain ⟨g3, c3, rfl⟩ := own_addr hown3 (by omega)
        have HB3 := Lib.hid (bt HB2.out hb3)
        have HO2' := Lib.hid (own_below HO2.out hb3)
        have HO3 := Lib.hid hown3
        have HVB := Lib.hid (HV.out.below HB3.out)
        clear hb3 hown3 HO2
        generalize encR vs = zs at hl2 hpos hran HAll HO2' HO3 ⊢
        generalize hn : zs.length = n at hl2 hpos HO2' HO3 ⊢
        have HN := Lib.hid hn
        have hs2 := own_str HO2'.out hn hran (by omega)
        have hs3 := own_str HO3.out hn hran (by omega)
        have HI := Lib.hid (own_isB HO2'.out hn hran)
        have HC := Lib.hid (cap_le HO2'.out).1
        clear hn hran hpos
        go_wp2_with fail
        refine (decode_any _ n c2 zs _ HI.out (fun x _ hx => by cases hx; exact own_low HO2'.out) (fun h => by cases h) HC.out (.inr (by omega))).mono ?_
        rintro e w4 ⟨hb4, hh⟩
        rw [HAll.out] at hh
        rcases hh with ⟨vs4, g4, n4, h4, rfl, hrow, hl4, hn4, _⟩ | ⟨h4, _⟩
        · obtain rfl := Option.some.inj h4
          have HB4 := Lib.hid (bt HB3.out hb4)
          have HR4 := Lib.hid (hrow.isV hl4 (by omega))
          have HV4 := Lib.hid (HV.out.below HB4.out)
          clear hb4 hrow hl4 h4
          go_wp2_with fail
          refine (same_any _ n4 n4 vs a len cap vs _ HR4.out HV4.out).mono ?_
          rintro e w5 ⟨rfl, hb5⟩
          have HB5 := Lib.hid (bt HB4.out hb5)
          rw [show decide (vs = vs) = true from decide_eq_true rfl]
          clear hb5
          go_wp2
          go_ret
          exact ⟨rfl, HB5.out⟩
        · cases h4
  · have HF := Lib.hid (show allF vs = false by simpa using hf)
    clear hl hf hr
    go_enter Try.func6, Try.ntmps6
    go_wp2_with fail
    refine (rawake_any _).mono ?_
    rintro e w1 ⟨rfl, hb1⟩
    have HB1 := Lib.hid hb1
    clear hb1
    go_wp2_with fail
    refine (encode_bad a len cap vs _ (HV.out.below HB1.out) HF.out).mono ?_
    rintro e w2 ⟨rfl, hb2⟩
    have HB2 := Lib.hid (bt HB1.out hb2)
    clear hb2
    go_wp2_with fail
    refine (rencode_bad a len cap vs _ (HV.out.below HB2.out) HF.out).mono ?_
    rintro e w3 ⟨rfl, hb3⟩
    have HB3 := Lib.hid (bt HB2.out hb3)
    clear hb3
    go_wp2_with fail
    refine (decode_any none 0 0 [] _ (isB_nil _) (fun x h => absurd rfl h) (fun _ => ⟨rfl, rfl⟩) (Nat.le_refl _) (.inr (by omega))).mono ?_
    rintro e w4 ⟨hb4, hh⟩
    rw [HDec.out] at hh
    rcases hh with ⟨_, _, _, hh, _⟩ | ⟨_, rfl⟩
    · cases hh
    · have HB4 := Lib.hid (bt HB3.out hb4)
      clear hb4
      go_wp2
      go_ret
      exact ⟨rfl, HB4.out⟩
end Go.Proofs.Ythgpdnbmilcgcaa
