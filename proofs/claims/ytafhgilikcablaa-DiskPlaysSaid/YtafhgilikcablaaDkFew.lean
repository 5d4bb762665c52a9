/- Contract of layer 9's Few. -/
import Derived.Test.YtafhgilikcablaaOps
import Derived.Test.YtafhgilikcablaaProg
import Derived.Deep.DeepCutAuto
namespace Go.Proofs.Ytafhgilikcablaa
open Go.RowKit
set_option linter.unusedVariables false
set_option maxRecDepth 100000

set_option maxHeartbeats 3200000 in
theorem dfew_any (la : Option Addr) (ln lc : Nat) (f : Nat → OpD) (w : World) (hL : IsOps w la ln f) :
    Calls Try.prog 9 #[.slice la ln lc] w fun e w' => e = .returned (.bool (fewB f ln)) ∧ w' = w := by
  have hm := hL.1
  have HL := Lib.hid hL
  clear hL
  go_enter Try.func9, Try.ntmps9
  go_wp2
  go_loop [3, 7] (fun n i => ∃ k : Nat, k ≤ ln ∧ k ≤ 100 ∧ i = .int .i64 (k : Int) ∧ n = .int .i64 (bulk f k : Int) ∧ bulk f k ≤ 20000 ∧ Hid (∀ i, i < k → i < 100 ∧ bulk f (i + 1) ≤ 20000 ∧ (f i).kl ≤ 200)) (fun _ i => ln - (intOf i).toNat)
  case atStart => exact ⟨0, by omega, by omega, rfl, rfl, by simp [bulk], Lib.hid (fun i hi => by omega)⟩
  case round =>
    obtain ⟨k, hk, hk1, rfl, rfl, hbk, HA⟩ := hrel
    have hki : (k : Int) ≤ 100 := by omega
    have hk0 : (0 : Int) ≤ (k : Int) := by omega
    by_cases hlt : k < ln
    · obtain ⟨_, hc⟩ := HL.out
      rcases hc with hc | ⟨b, off, rfl, hb, hc⟩
      · omega
      have ho := hc k hlt
      have c4 := ho.c4
      have c5 := ho.c5
      obtain ⟨r1, r2⟩ := ho.rb
      obtain ⟨n, hn⟩ : ∃ n, n = bulk f k := ⟨_, rfl⟩
      obtain ⟨q, hq⟩ : ∃ q, q = (f k).bl := ⟨_, rfl⟩
      obtain ⟨z, hz⟩ : ∃ z, z = (f k).kl := ⟨_, rfl⟩
      have HN := Lib.hid (show n + q = bulk f (k + 1) by rw [hn, hq]; rfl)
      have HZ := Lib.hid hz
      rw [← hn] at hbk ⊢
      rw [← hq] at c4 r1
      rw [← hz] at c5 r2
      clear hn hq hz ho hc
      have hnq : (0 : Int) ≤ (n : Int) + (q : Int) := by omega
      have hki2 : (k : Int) < (ln : Int) := by omega
      by_cases h1 : 100 ≤ (k : Int)
      · have HF := Lib.hid (show fewB f ln = false from fewB_no hlt (.inl (by omega)))
        go_wp2
        go_ret
        rw [HF.out]
        exact ⟨rfl, rfl⟩
      · have h1' : (k : Int) < 100 := by omega
        clear h1
        by_cases h2 : 20000 < (n : Int) + (q : Int)
        · have HF := Lib.hid (show fewB f ln = false from fewB_no hlt (.inr (.inl (by have := HN.out; omega))))
          go_wp2
          go_ret
          rw [HF.out]
          exact ⟨rfl, rfl⟩
        · have h2' : (n : Int) + (q : Int) ≤ 20000 := by omega
          clear h2
          by_cases h3 : 200 < (z : Int)
          · have HF := Lib.hid (show fewB f ln = false from fewB_no hlt (.inr (.inr (by have := HZ.out; omega))))
            go_wp2
            go_ret
            rw [HF.out]
            exact ⟨rfl, rfl⟩
          · have h3' : (z : Int) ≤ 200 := by omega
            clear h3
            have HA2 := Lib.hid (show ∀ i, i < k + 1 → i < 100 ∧ bulk f (i + 1) ≤ 20000 ∧ (f i).kl ≤ 200 from fun i hi => by
              rcases Nat.lt_succ_iff_lt_or_eq.1 hi with h | rfl
              · exact HA.out i h
              · have := HN.out
                have := HZ.out
                omega)
            go_wp2
            go_round
            case rel => exact ⟨k + 1, by omega, by omega, by go_num, by rw [← HN.out]; go_num, by have := HN.out; omega, HA2⟩
            case measure => simp [intOf]; omega
    · have hkk : (ln : Int) ≤ (k : Int) := by omega
      have HF := Lib.hid (show fewB f ln = true from fewB_iff.2 (fun i hi => HA.out i (by omega)))
      go_wp2
      go_ret
      rw [HF.out]
      exact ⟨rfl, rfl⟩
end Go.Proofs.Ytafhgilikcablaa
