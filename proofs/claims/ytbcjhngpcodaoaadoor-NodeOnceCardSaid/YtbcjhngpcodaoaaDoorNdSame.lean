/- Contracts of the document's Lists and Ints: two alike. -/
import Derived.Test.YtbcjhngpcodaoaaDoorNdRForm
namespace Go.Proofs.YtbcjhngpcodaoaaDoor
open Go.RowKit
set_option linter.unusedVariables false
set_option maxRecDepth 100000

set_option maxHeartbeats 3200000 in
theorem lists_same (a b : Option Addr) (la lb ca cb : Nat) (xs : List (List Int)) (w : World) (h1 : IsBs w a la xs) (h2 : IsBs w b lb xs) : Calls Tryd.prog 30 #[.slice a la ca, .slice b lb cb] w fun e w' => e = .returned (.bool true) ∧ Below w.heap.size w w' := by
  obtain rfl : la = lb := h1.1.symm.trans h2.1
  have hla := h1.2.1
  have H1 := Lib.hid h1
  have H2 := Lib.hid h2
  clear h1 h2
  go_enter Tryd.func30, Tryd.ntmps30
  go_wp2
  go_loopw [13] (fun i wr => ∃ (k : Nat), k ≤ la ∧ i = .int .i64 (k : Int) ∧ Hid (Below w.heap.size w wr)) (fun i _ => la - (intOf i).toNat)
  case atStart => exact ⟨0, by omega, rfl, Lib.hid (Below.refl _ _)⟩
  case round =>
    obtain ⟨k, hk, rfl, HB⟩ := hrel
    by_cases hlt : k < la
    · obtain ⟨_, _, hc⟩ := H1.out.below HB.out
      obtain ⟨_, _, hd⟩ := H2.out.below HB.out
      rcases hc with hc | ⟨b1, off1, rfl, _, hc⟩
      · omega
      rcases hd with hd | ⟨b2, off2, rfl, _, hd⟩
      · omega
      obtain ⟨ai, li, ci, c1, c2, c3, _⟩ := hc k hlt
      obtain ⟨aj, lj, cj, d1, d2, d3, _⟩ := hd k hlt
      have hki : (k : Int) < (la : Int) := by omega
      have hk0 : (0 : Int) ≤ (k : Int) := by omega
      have HLt := Lib.hid hlt
      have t1 : ∀ n, (convert 29 9 (.slice ai li ci)).run Tryd.prog (wr.drewN n) = .ok (.string (strOfNums (xs.getD k []))) (wr.drewN n) := fun n => str_any (w := wr.drewN n) (show IsB (wr.drewN n) ai li _ from c2) c3
      have t2 : ∀ n, (convert 29 9 (.slice aj lj cj)).run Tryd.prog (wr.drewN n) = .ok (.string (strOfNums (xs.getD k []))) (wr.drewN n) := fun n => str_any (w := wr.drewN n) (show IsB (wr.drewN n) aj lj _ from d2) d3
      have c1n : ∀ n, (wr.drewN n).cell? ⟨b1, off1 + k, none⟩ = some (.slice ai li ci) := fun n => c1
      have d1n : ∀ n, (wr.drewN n).cell? ⟨b2, off2 + k, none⟩ = some (.slice aj lj cj) := fun n => d1
      generalize strOfNums (xs.getD k []) = S at *
      clear hc hd c1 c2 c3 d1 d2 d3 hlt hk
      go_wp2
      go_quiet (fail)
      go_wp2
      go_roundw
      case rel => exact ⟨k + 1, HLt.out, by go_num, Lib.hid (ndDrew HB.out _)⟩
      case measure => have := HLt.out; simp [intOf]; omega
    · have hkk : (la : Int) ≤ (k : Int) := by omega
      go_wp2
      go_ret
      exact ⟨rfl, HB.out⟩

set_option maxHeartbeats 3200000 in
theorem ints_same (a b : Option Addr) (la lb ca cb : Nat) (xs : List Int) (w : World) (h1 : IsN w a la xs) (h2 : IsN w b lb xs) : Calls Tryd.prog 31 #[.slice a la ca, .slice b lb cb] w fun e w' => e = .returned (.bool true) ∧ Below w.heap.size w w' := by
  obtain rfl : la = lb := h1.1.symm.trans h2.1
  have hla := h1.2.1
  have H1 := Lib.hid h1
  have H2 := Lib.hid h2
  clear h1 h2
  go_enter Tryd.func31, Tryd.ntmps31
  go_wp2
  go_loopw [13] (fun i wr => ∃ (k : Nat), k ≤ la ∧ i = .int .i64 (k : Int) ∧ Hid (Below w.heap.size w wr)) (fun i _ => la - (intOf i).toNat)
  case atStart => exact ⟨0, by omega, rfl, Lib.hid (Below.refl _ _)⟩
  case round =>
    obtain ⟨k, hk, rfl, HB⟩ := hrel
    by_cases hlt : k < la
    · obtain ⟨_, _, hc, _⟩ := H1.out.below HB.out
      obtain ⟨_, _, hd, _⟩ := H2.out.below HB.out
      rcases hc with hc | ⟨b1, off1, rfl, _, hc⟩
      · omega
      rcases hd with hd | ⟨b2, off2, rfl, _, hd⟩
      · omega
      have c1 := hc k hlt
      have d1 := hd k hlt
      have hki : (k : Int) < (la : Int) := by omega
      have hk0 : (0 : Int) ≤ (k : Int) := by omega
      have HLt := Lib.hid hlt
      have c1n : ∀ n, (wr.drewN n).cell? ⟨b1, off1 + k, none⟩ = some (.int .i64 (xs.getD k 0)) := fun n => c1
      have d1n : ∀ n, (wr.drewN n).cell? ⟨b2, off2 + k, none⟩ = some (.int .i64 (xs.getD k 0)) := fun n => d1
      generalize xs.getD k 0 = z at *
      clear hc hd c1 d1 hlt hk
      go_wp2
      go_quiet (fail)
      go_wp2
      go_roundw
      case rel => exact ⟨k + 1, HLt.out, by go_num, Lib.hid (ndDrew HB.out _)⟩
      case measure => have := HLt.out; simp [intOf]; omega
    · have hkk : (la : Int) ≤ (k : Int) := by omega
      go_wp2
      go_ret
      exact ⟨rfl, HB.out⟩
end Go.Proofs.YtbcjhngpcodaoaaDoor
