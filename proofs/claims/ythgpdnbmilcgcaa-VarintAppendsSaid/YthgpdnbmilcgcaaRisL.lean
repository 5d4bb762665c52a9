/- VarintRises: the law's walk; every three numbers of 64 bits. -/
import Derived.Test.YthgpdnbmilcgcaaAppW
import Derived.Laws.BytesArg
import Derived.Test.YthgpdnbmilcgcaaEncPure
namespace Go.Proofs.Ythgpdnbmilcgcaa
open Go.RowKit
set_option linter.unusedVariables false

theorem append_nil (n : Int) (h0 : 0 ≤ n) (h1 : n ≤ 18446744073709551615) (G : Nat) (hG : groups n = G) (w : World) :
    Calls Try.prog 14 #[.slice none 0 0, .int .u64 n] w fun e w' => e = .returned (.slice (some ⟨w.heap.size, 0, none⟩) G G) ∧
      Hid (w'.ownsRow w.heap.size 5 1 (.slice (some ⟨w.heap.size, 0, none⟩) G G) G ((enc n).map (Value.int .u8)) ∧ Below w.heap.size w w') := by
  subst hG
  refine (append_any none 0 0 [] n h0 h1 w (isB_nil _) (fun x h => absurd rfl h) (by omega) (fun _ => ⟨rfl, rfl⟩)).mono ?_
  rintro e w' ⟨h1, h2, h3⟩
  rw [Nat.zero_add] at h1 h2
  exact ⟨h1, h2, h3⟩

set_option maxHeartbeats 1600000 in
theorem rises_core (n more cut m : Int) (h0 : 0 ≤ n) (h1 : n ≤ 18446744073709551615) (k0 : 0 ≤ m) (k1 : m ≤ 18446744073709551615) (w : World) (hmx : max n more = m) (G K c : Nat) (hG : Hid (groups n = G)) (hK : Hid (groups m = K)) (hG1 : 1 ≤ G) (hG2 : G ≤ 10) (hGK : G ≤ K) (hK2 : K ≤ 10) (eG : ((G : Int) == 0) = false)
    (hcut : cut % (G : Int) = (c : Int)) (hc : (c : Int) < (G : Int)) (c0 : 0 ≤ cut) (c1 : cut ≤ 18446744073709551615) (β : Bool) (hs : ((strOfNums (enc n)).toList == (strOfNums (enc m)).toList) = β) (hd : decide (more ≤ n) = β) :
    Calls Try.prog 5 #[.int .u64 n, .int .u64 more, .int .u64 cut] w fun e w' => e = .returned (.bool true) ∧ Below w.heap.size w w' := by
  have HT := Lib.hid (enc_cut n h0 c (by have := hG.out; omega))
  go_enter Try.func5, Try.ntmps5
  go_wp2_with fail
  refine (awake_any _).mono ?_
  rintro e w1 ⟨rfl, hb1⟩
  have HB1 := Lib.hid hb1
  clear hb1
  go_wp2_with fail
  refine (append_nil n h0 h1 G hG.out _).mono ?_
  rintro e w2 ⟨rfl, HO2⟩
  go_wp2_with fail
  refine (append_nil m k0 k1 K hK.out _).mono ?_
  rintro e w3 ⟨rfl, HO3⟩
  have hz := HO2.out.1.2
  have lt1 : w1.heap.size < w2.heap.size := by
    have := World.block_lt_of_cell? w2 _ (HO2.out.1.cellAt 0 (by omega) |>.trans (by rw [List.getElem?_map, List.getElem?_eq_getElem (by rw [enc_length, hG.out]; omega)]; rfl))
    exact this
  have A2 := Lib.hid (isB_own (c := G) (by rw [enc_length, hG.out]) (by unfold maxLen; omega) (Nat.le_refl _) HO2.out.1 (enc_range n h0) (Nat.le_refl _))
  have A3 := Lib.hid (A2.out.below HO3.out.2 (fun x _ hx => by cases hx; exact lt1))
  have C2 := Lib.hid (isB_own (c := c) (by rw [enc_length, hG.out]) (by unfold maxLen; omega) (Nat.le_refl _) HO2.out.1 (enc_range n h0) (by omega))
  have C3 := Lib.hid (C2.out.below HO3.out.2 (fun x _ hx => by cases hx; exact lt1))
  have B3 := Lib.hid (isB_own (c := K) (by rw [enc_length, hK.out]) (by unfold maxLen; omega) (Nat.le_refl _) HO3.out.1 (enc_range m k0) (Nat.le_refl _))
  clear hz
  go_wp2_with fail
  refine (take_any _ _ _ _ _ C3.out).mono ?_
  rintro e w' ⟨rfl, rfl⟩
  rw [HT.out]
  unfold endT
  have s1 := str_of (cap := G) A3.out (by omega)
  have s2 := str_of (cap := K) B3.out (by omega)
  rw [List.take_of_length_le (by rw [enc_length, hG.out]; exact Nat.le_refl _)] at s1
  rw [List.take_of_length_le (by rw [enc_length, hK.out]; exact Nat.le_refl _)] at s2
  go_wp2
  go_ret
  exact ⟨rfl, bt (bt HB1.out HO2.out.2) HO3.out.2⟩

theorem varintRises_walk (n more cut : Int) (h0 : 0 ≤ n) (h1 : n ≤ 18446744073709551615) (k0 : 0 ≤ more) (k1 : more ≤ 18446744073709551615) (c0 : 0 ≤ cut) (c1 : cut ≤ 18446744073709551615) (w : World) :
    Calls Try.prog 5 #[.int .u64 n, .int .u64 more, .int .u64 cut] w fun e w' => e = .returned (.bool true) ∧ Below w.heap.size w w' := by
  obtain ⟨g1, g2⟩ := groups_bd n
  have hG0 : (0 : Int) < (groups n : Int) := by omega
  have hr0 := Int.emod_nonneg cut (show (groups n : Int) ≠ 0 by omega)
  have hr1 := Int.emod_lt_of_pos cut hG0
  have hcut : cut % (groups n : Int) = ((cut % (groups n : Int)).toNat : Int) := by omega
  have eG : ((groups n : Int) == 0) = false := by rw [beq_eq_false_iff_ne]; omega
  by_cases h : more ≤ n
  · exact rises_core n more cut n h0 h1 h0 h1 w (by omega) (groups n) (groups n) _ rfl rfl g1 g2 (Nat.le_refl _) g2 eG hcut (by omega) c0 c1 true (by simp) (by simpa using h)
  · obtain ⟨q1, q2⟩ := groups_bd more
    refine rises_core n more cut more h0 h1 k0 k1 w (by omega) (groups n) (groups more) _ rfl rfl g1 g2 (groups_mono n more h0 h1 k1 (by omega)) q2 eG hcut (by omega) c0 c1 false ?_ (by simpa using h)
    rw [beq_eq_false_iff_ne]
    intro he
    have := enc_inj n more h0 h1 k0 k1 (strOfNums_inj (enc_range n h0) (enc_range more k0) he)
    omega
end Go.Proofs.Ythgpdnbmilcgcaa
