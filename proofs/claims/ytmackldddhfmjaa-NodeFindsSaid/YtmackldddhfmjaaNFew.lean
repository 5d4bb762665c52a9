/- Contracts of the document's Few and Find: every node, every key. -/
import Derived.Test.YtmackldddhfmjaaNFind
import Derived.Deep.QuietTactic
import Derived.BigQuiet
namespace Go.Proofs.Ytmackldddhfmjaa
open Go.RowKit
set_option linter.unusedVariables false
set_option maxRecDepth 100000

theorem below_drewN {B : Nat} {a w : World} (h : Below B a w) (n : Nat) : Below B a (w.drewN n) := ⟨h.os, h.tape, h.output, h.size, h.block⟩

/-- some truth, and memory as it was -/
def SomeBool (w : World) (e : Ending) (w' : World) : Prop := ∃ b : Bool, e = .returned (.bool b) ∧ Below w.heap.size w w'

set_option maxHeartbeats 1600000 in
theorem few_any (lf : Bool) (ka va ia : Option Addr) (kl kc vl vc il ic : Nat) (ks vs : List (List Int)) (w : World)
    (hK : IsBs w ka kl ks) (hV : IsBs w va vl vs) (hil : il ≤ 9223372036854775807) :
    Calls Try.prog 13 #[.agg #[.bool lf, .slice ka kl kc, .slice va vl vc, .slice ia il ic]] w (SomeBool w) := by
  have hkl := hK.2.1
  have hvl := hV.2.1
  obtain ⟨W0, hW0⟩ : ∃ W0, W0 = w.alloc (.cells #[.bool lf, .slice ka kl kc, .slice va vl vc, .slice ia il ic] 25) := ⟨_, rfl⟩
  have q1 : W0.cell? ⟨w.heap.size, 1, none⟩ = some (.slice ka kl kc) := by rw [hW0]; simp [go_sem]
  have q2 : W0.cell? ⟨w.heap.size, 2, none⟩ = some (.slice va vl vc) := by rw [hW0]; simp [go_sem]
  have q3 : W0.cell? ⟨w.heap.size, 3, none⟩ = some (.slice ia il ic) := by rw [hW0]; simp [go_sem]
  have hb0 : Below w.heap.size w W0 := by rw [hW0]; exact bel0 _ (Below.refl _ _)
  have HB0 := Lib.hid hb0
  have HK0 := Lib.hid (hK.below hb0)
  have HV0 := Lib.hid (hV.below hb0)
  have HW := Lib.hid hW0
  clear hK hV hb0
  by_cases a1 : 300 < (kl : Int)
  · go_enter Try.func13, Try.ntmps13
    go_wp2
    go_ret
    exact ⟨_, rfl, by rw [← HW.out]; exact HB0.out⟩
  by_cases a2 : 300 < (vl : Int)
  · go_enter Try.func13, Try.ntmps13
    go_wp2
    go_ret
    exact ⟨_, rfl, by rw [← HW.out]; exact HB0.out⟩
  by_cases a3 : 300 < (il : Int)
  · go_enter Try.func13, Try.ntmps13
    go_wp2
    go_ret
    exact ⟨_, rfl, by rw [← HW.out]; exact HB0.out⟩
  have a1' : (kl : Int) ≤ 300 := by omega
  have a2' : (vl : Int) ≤ 300 := by omega
  have a3' : (il : Int) ≤ 300 := by omega
  clear a1 a2 a3
  go_enter Try.func13, Try.ntmps13
  go_wp2
  clear hW0
  rw [← HW.out]
  go_loop [24] (fun i => ∃ (k : Nat), k ≤ kl ∧ i = .int .i64 (k : Int)) (fun i => kl - (intOf i).toNat)
  case atStart => exact ⟨0, by omega, rfl⟩
  case round =>
    obtain ⟨k, hk, rfl⟩ := hrel
    by_cases hlt : k < kl
    · obtain ⟨_, _, hc⟩ := HK0.out
      rcases hc with hc | ⟨b, off, rfl, _, hc⟩
      · omega
      obtain ⟨ai, li, ci, c1, c2, c3, c4⟩ := hc k hlt
      have hki : (k : Int) < (kl : Int) := by omega
      have hk0 : (0 : Int) ≤ (k : Int) := by omega
      clear hc c2 c3 c4
      by_cases hbig : 1000 < (li : Int)
      · go_wp2
        go_ret
        exact ⟨_, rfl, HB0.out⟩
      · have hbig' : (li : Int) ≤ 1000 := by omega
        go_wp2
        go_round
        case rel => exact ⟨k + 1, by omega, by go_num⟩
        case measure => simp [intOf]; omega
    · have hkk : (kl : Int) ≤ (k : Int) := by omega
      go_wp2
      go_loop [38] (fun i => ∃ (k : Nat), k ≤ vl ∧ i = .int .i64 (k : Int)) (fun i => vl - (intOf i).toNat)
      case atStart => exact ⟨0, by omega, rfl⟩
      case round =>
        obtain ⟨m, hm, rfl⟩ := hrel
        by_cases hlt2 : m < vl
        · obtain ⟨_, _, hc⟩ := HV0.out
          rcases hc with hc | ⟨b, off, rfl, _, hc⟩
          · omega
          obtain ⟨ai, li, ci, c1, c2, c3, c4⟩ := hc m hlt2
          have hki : (m : Int) < (vl : Int) := by omega
          have hk0 : (0 : Int) ≤ (m : Int) := by omega
          clear hc c2 c3 c4
          by_cases hbig : 1000 < (li : Int)
          · go_wp2
            go_ret
            exact ⟨_, rfl, HB0.out⟩
          · have hbig' : (li : Int) ≤ 1000 := by omega
            go_wp2
            go_round
            case rel => exact ⟨m + 1, by omega, by go_num⟩
            case measure => simp [intOf]; omega
        · have hmm : (vl : Int) ≤ (m : Int) := by omega
          go_wp2
          go_ret
          exact ⟨_, rfl, HB0.out⟩
end Go.Proofs.Ytmackldddhfmjaa
