/- KeysOrder: the law's walk. -/
import Derived.Test.YthgpdnbmilcgcabKOPure
import Derived.Test.YthgpdnbmilcgcabOrdW
import Derived.Test.YthgpdnbmilcgcabKeyA
import Derived.Test.YthgpdnbmilcgcabVal1
import Derived.BigQuiet
import Derived.Deep.QuietTactic
import Derived.Deep.DeepCutAuto
namespace Go.Proofs.Ythgpdnbmilcgcab
open Go.RowKit
set_option linter.unusedVariables false

theorem slice_hV (a : Option Addr) (len cap m : Nat) (hm : m ≤ cap) (k2 : IntKind) (W : World) : (Instr.slice 22 (.slice a len cap) none (some (.int k2 (m : Int))) none).run Try.prog W = .ok (.slice a m cap) W := by
  obtain ⟨i0, hi, hz0, hz1, hz2⟩ := info_parts infoV
  have ht : Try.prog.underlying 22 = some (.slice (Try.prog.elem 22)) := by kernel_rfl
  have he : Try.prog.elem 22 = 54 := by kernel_rfl
  rw [run_slice_h (P := Try.prog) W 22 a len cap ht k2 (m : Int) (by omega) (by omega), he]
  simp [sizeOf, typeInfo, hi, hz1, sliced, Result.andThen]
  intro _
  cases a with
  | none => rfl
  | some y => simp [Addr.add]
theorem IsV.take {w : World} {a : Option Addr} {len k : Nat} {vs : List Val} (h : IsV w a len vs) (hk : k ≤ len) : IsV w a k (vs.take k) := by
  obtain ⟨h1, h2, h3⟩ := h
  refine ⟨by rw [List.length_take]; omega, by omega, ?_⟩
  rcases h3 with h3 | ⟨b, off, rfl, hlt, hc⟩
  · exact .inl (by omega)
  · refine .inr ⟨b, off, rfl, hlt, fun i hi => ?_⟩
    have e : (vs.take k).getD i noV = vs.getD i noV := by simp [List.getD, hi]
    rw [e]
    exact hc i (by omega)
theorem below_drewN {B : Nat} {a w : World} (h : Below B a w) (n : Nat) : Below B a (w.drewN n) := ⟨h.os, h.tape, h.output, h.size, h.block⟩

set_option maxRecDepth 100000 in
set_option maxHeartbeats 3000000 in
theorem keysOrder_walk (a : Option Addr) (la ca : Nat) (va : List Val) (b : Option Addr) (lb cb : Nat) (vb : List Val) (n : Int) (n0 : 0 ≤ n) (n1 : n ≤ 255) (w : World) (hva : IsV w a la va) (hvb : IsV w b lb vb) (hca : la ≤ ca)
    (hra : ∀ v ∈ va, -9223372036854775808 ≤ v.2.1 ∧ v.2.1 ≤ 9223372036854775807) (hrb : ∀ v ∈ vb, -9223372036854775808 ≤ v.2.1 ∧ v.2.1 ≤ 9223372036854775807) :
    Calls Try.prog 5 #[.slice a la ca, .slice b lb cb, .int .u8 n] w fun e w' => e = .returned (.bool true) ∧ Below w.heap.size w w' := by
  have HA := Lib.hid hva
  have HB := Lib.hid hvb
  have hma := hva.2.1
  have hmb := hvb.2.1
  have hla := hva.1
  have hlb := hvb.1
  clear hva hvb
  by_cases hg : (1000 : Int) < (la : Int) ∨ (1000 : Int) < (lb : Int)
  · clear hla hlb
    rcases Int.lt_or_le 1000 (la : Int) with hx | hx
    · clear hg
      go_enter Try.func5, Try.ntmps5
      go_wp2_with fail
      refine (kawake_any _).mono ?_
      rintro e w1 ⟨rfl, hb1⟩
      have HB1 := Lib.hid hb1
      clear hb1
      go_wp2_with fail
      refine (kawake_any _).mono ?_
      rintro e w2 ⟨rfl, hb2⟩
      have HB2 := Lib.hid (bt HB1.out hb2)
      clear hb2
      go_wp2
      go_ret
      exact ⟨rfl, HB2.out⟩
    · have hy : (1000 : Int) < (lb : Int) := by omega
      clear hg
      go_enter Try.func5, Try.ntmps5
      go_wp2_with fail
      refine (kawake_any _).mono ?_
      rintro e w1 ⟨rfl, hb1⟩
      have HB1 := Lib.hid hb1
      clear hb1
      go_wp2_with fail
      refine (kawake_any _).mono ?_
      rintro e w2 ⟨rfl, hb2⟩
      have HB2 := Lib.hid (bt HB1.out hb2)
      clear hb2
      go_wp2
      go_ret
      exact ⟨rfl, HB2.out⟩
  have hx : (la : Int) ≤ 1000 := by omega
  have hy : (lb : Int) ≤ 1000 := by omega
  clear hg
  by_cases hfa : allF va = true
  · have HOA := Lib.hid (okV_all hfa hra)
    by_cases hfb : allF vb = true
    · have HOB := Lib.hid (okV_all hfb hrb)
      have HLess := Lib.hid (keys_less va vb HOA.out HOB.out)
      have HMore := Lib.hid (show lessI (keyVs vb) (keyVs va) = decide (0 < rowsF va vb) by
        rw [keys_less vb va HOB.out HOA.out, rowsF_neg va vb]
        rw [Bool.eq_iff_iff, decide_eq_true_iff, decide_eq_true_iff]; omega)
      have hkla := keyVs_len HOA.out
      have hklb := keyVs_len HOB.out
      have hka : (keyVs va).length ≤ 203000 := by omega
      have hkb : (keyVs vb).length ≤ 203000 := by omega
      have HLA := Lib.hid hla
      clear hkla hklb hla hlb hra hrb hfa hfb
      go_enter Try.func5, Try.ntmps5
      go_wp2_with fail
      refine (kawake_any _).mono ?_
      rintro e w1 ⟨rfl, hb1⟩
      have HB1 := Lib.hid hb1
      clear hb1
      go_wp2_with fail
      refine (key_good a la ca va _ (HA.out.below HB1.out) HOA.out (by omega)).mono ?_
      rintro e w2 ⟨v2, rfl, hown2, hb2⟩
      have HB2 := Lib.hid (bt HB1.out hb2)
      have HO2 := Lib.hid hown2
      clear hb2 hown2
      go_wp2_with fail
      refine (key_good b lb cb vb _ (HB.out.below HB2.out) HOB.out (by omega)).mono ?_
      rintro e w3 ⟨v3, rfl, hown3, hb3⟩
      have HB3 := Lib.hid (bt HB2.out hb3)
      have hranA := keyVs_range va
      have hranB := keyVs_range vb
      obtain ⟨a2, L2, c2, rfl, hL2, i2, l2, n2, lc2, _⟩ := own_any (own_below HO2.out hb3) hranA
      obtain ⟨a3, L3, c3, rfl, hL3, i3, l3, n3, lc3, _⟩ := own_any hown3 hranB
      have HSA := Lib.hid (show ∀ W, Below w3.heap.size w3 W → (convert 24 9 (.slice a2 L2 c2)).run Try.prog W = .ok (.string (strOfNums (keyVs va))) W from fun W hW => str_any (i2.below hW l2) n2)
      have HSB := Lib.hid (show ∀ W, Below w3.heap.size w3 W → (convert 24 9 (.slice a3 L3 c3)).run Try.prog W = .ok (.string (strOfNums (keyVs vb))) W from fun W hW => str_any (i3.below hW l3) n3)
      have HI2 := Lib.hid i2
      have HL2 := Lib.hid l2
      have HN2 := Lib.hid n2
      have HC2 := Lib.hid lc2
      have HLL2 := Lib.hid hL2
      have hsl : Op.bytesLess (strOfNums (keyVs va)).toList (strOfNums (keyVs vb)).toList = decide (rowsF va vb < 0) := by rw [less_str _ _ hranA hranB]; exact HLess.out
      have hsm : (!Op.bytesLess (strOfNums (keyVs va)).toList (strOfNums (keyVs vb)).toList && !((strOfNums (keyVs va)).toList == (strOfNums (keyVs vb)).toList)) = decide (0 < rowsF va vb) := by
        rw [less_str _ _ hranA hranB, eq_str _ _ hranA hranB, less_flip]; exact HMore.out
      have HRanA := Lib.hid hranA
      clear hb3 hown3 HO2 hL2 hL3 i2 l2 n2 lc2 i3 l3 n3 lc3 hranA hranB HLess HMore
      go_upto_region 7 with (fail)
      go_cut [11, 12] (fun p q wx => p = .bool (decide (rowsF va vb < 0)) ∧ q = .bool (decide (0 < rowsF va vb)) ∧ Below w3.heap.size w3 wx)
      case first =>
        have c1 := fun n => HSA.out (w3.drewN n) (below_drewN (Below.refl _ w3) n)
        have c2 := fun n => HSB.out (w3.drewN n) (below_drewN (Below.refl _ w3) n)
        have HR1 := Lib.hid hsl
        have HR2 := Lib.hid hsm
        clear hsl hsm
        go_quiet (fail)
        go_wp2_with fail
        go_meet
        exact ⟨by rw [HR1.out], by rw [HR2.out], below_drewN (Below.refl _ w3) _⟩
      case rest =>
        obtain ⟨rfl, rfl, hbc⟩ := hcut
        have HBC := Lib.hid hbc
        have HB4 := Lib.hid (bt HB3.out hbc)
        clear hbc hsl hsm
        generalize hr : rowsF va vb = r
        have HR := Lib.hid hr
        clear hr
        go_wp2_with fail
        refine (vrows_any a la ca va b lb cb vb _ (HA.out.below HB4.out) (HB.out.below HB4.out)).mono ?_
        rintro e w5 ⟨rfl, hb5⟩
        rw [HR.out]
        have HB5 := Lib.hid (bt HB4.out hb5)
        have HBC5 := Lib.hid (bt HBC.out hb5)
        clear hb5
        go_wp2_with fail
        refine (vrows_any a la ca va b lb cb vb _ (HA.out.below HB5.out) (HB.out.below HB5.out)).mono ?_
        rintro e w6 ⟨rfl, hb6⟩
        rw [HR.out]
        have HB6 := Lib.hid (bt HB5.out hb6)
        have HBC6 := Lib.hid (bt HBC5.out hb6)
        clear hb6
        obtain ⟨k, hk⟩ : ∃ k : Nat, min n (la : Int) = (k : Int) := ⟨(min n (la : Int)).toNat, by omega⟩
        have hkl : k ≤ la := by omega
        have hw1 : IntKind.i64.wrap n = n := IntWalk.i64_in _ (by omega)
        have hs1 : ∀ W, (Instr.slice 22 (.slice a la ca) none (some (.int .i64 (k : Int))) none).run Try.prog W = .ok (.slice a k ca) W := fun W => slice_hV a la ca k (by omega) .i64 W
        go_wp2_with fail
        refine (key_good a k ca (va.take k) _ ((HA.out.below HB6.out).take hkl) (fun v hv => HOA.out v (List.mem_of_mem_take hv)) (by omega)).mono ?_
        rintro e w7 ⟨v7, rfl, hown7, hb7⟩
        have HB7 := Lib.hid (bt HB6.out hb7)
        have HBC7 := Lib.hid (bt HBC6.out hb7)
        have hranK := keyVs_range (va.take k)
        obtain ⟨a7, L7, c7, rfl, hL7, i7, l7, n7, lc7, _⟩ := own_any hown7 hranK
        obtain ⟨t1, t2⟩ := keys_take va k
        have hL72 : L7 ≤ L2 := by rw [hL7, HLL2.out]; exact t2
        have HSK := Lib.hid (show ∀ W, Below w7.heap.size w7 W → (convert 24 9 (.slice a7 L7 c7)).run Try.prog W = .ok (.string (strOfNums (keyVs (va.take k)))) W from fun W hW => str_any (i7.below hW l7) n7)
        have HST := Lib.hid (show ∀ W, Below w7.heap.size w7 W → (convert 24 9 (.slice a2 L7 c2)).run Try.prog W = .ok (.string (strOfNums (keyVs (va.take k)))) W from fun W hW => by
          have h := isB_take (HI2.out.below (bt HBC7.out hW) HL2.out) hL72
          rw [hL7, t1, ← hL7] at h
          exact str_any h (fun e => by have := HN2.out e; omega))
        have hs2 : ∀ W, (Instr.slice 24 (.slice a2 L2 c2) none (some (.int .i64 (L7 : Int))) none).run Try.prog W = .ok (.slice a2 L7 c2) W := fun W => slice_h a2 L2 c2 L7 (by have := HC2.out; omega) .i64 W
        have hle : (L7 : Int) ≤ (L2 : Int) := by omega
        clear hown7 hb7 hL7 i7 l7 n7 lc7 t1 t2 hw1 hs1 hk
        generalize strOfNums (keyVs (va.take k)) = SK at HSK HST
        have e1 := fun n => HSK.out (w7.drewN n) (below_drewN (Below.refl _ w7) n)
        have e2 := fun n => HST.out (w7.drewN n) (below_drewN (Below.refl _ w7) n)
        go_wp2_with fail
        go_quiet (fail)
        go_wp2
        go_ret
        exact ⟨rfl, bt HB7.out (below_drewN (Below.refl _ w7) _)⟩
    · have HF := Lib.hid (show allF vb = false by simpa using hfb)
      clear hla hlb hra hrb hfa hfb
      go_enter Try.func5, Try.ntmps5
      go_wp2_with fail
      refine (kawake_any _).mono ?_
      rintro e w1 ⟨rfl, hb1⟩
      have HB1 := Lib.hid hb1
      clear hb1
      go_wp2_with fail
      refine (key_good a la ca va _ (HA.out.below HB1.out) HOA.out (by omega)).mono ?_
      rintro e w2 ⟨v2, rfl, _, hb2⟩
      have HB2 := Lib.hid (bt HB1.out hb2)
      clear hb2
      go_wp2_with fail
      refine (key_bad b lb cb vb _ (HB.out.below HB2.out) HF.out).mono ?_
      rintro e w3 ⟨rfl, hb3⟩
      have HB3 := Lib.hid (bt HB2.out hb3)
      clear hb3
      go_wp2
      go_ret
      exact ⟨rfl, HB3.out⟩
  · have HF := Lib.hid (show allF va = false by simpa using hfa)
    by_cases hfb : allF vb = true
    · have HOB := Lib.hid (okV_all hfb hrb)
      clear hla hlb hra hrb hfa hfb
      go_enter Try.func5, Try.ntmps5
      go_wp2_with fail
      refine (kawake_any _).mono ?_
      rintro e w1 ⟨rfl, hb1⟩
      have HB1 := Lib.hid hb1
      clear hb1
      go_wp2_with fail
      refine (key_bad a la ca va _ (HA.out.below HB1.out) HF.out).mono ?_
      rintro e w2 ⟨rfl, hb2⟩
      have HB2 := Lib.hid (bt HB1.out hb2)
      clear hb2
      go_wp2_with fail
      refine (key_good b lb cb vb _ (HB.out.below HB2.out) HOB.out (by omega)).mono ?_
      rintro e w3 ⟨v3, rfl, _, hb3⟩
      have HB3 := Lib.hid (bt HB2.out hb3)
      clear hb3
      go_wp2
      go_ret
      exact ⟨rfl, HB3.out⟩
    · have HF2 := Lib.hid (show allF vb = false by simpa using hfb)
      clear hla hlb hra hrb hfa hfb
      go_enter Try.func5, Try.ntmps5
      go_wp2_with fail
      refine (kawake_any _).mono ?_
      rintro e w1 ⟨rfl, hb1⟩
      have HB1 := Lib.hid hb1
      clear hb1
      go_wp2_with fail
      refine (key_bad a la ca va _ (HA.out.below HB1.out) HF.out).mono ?_
      rintro e w2 ⟨rfl, hb2⟩
      have HB2 := Lib.hid (bt HB1.out hb2)
      clear hb2
      go_wp2_with fail
      refine (key_bad b lb cb vb _ (HB.out.below HB2.out) HF2.out).mono ?_
      rintro e w3 ⟨rfl, hb3⟩
      have HB3 := Lib.hid (bt HB2.out hb3)
      clear hb3
      go_wp2
      go_ret
      exact ⟨rfl, HB3.out⟩
end Go.Proofs.Ythgpdnbmilcgcab
