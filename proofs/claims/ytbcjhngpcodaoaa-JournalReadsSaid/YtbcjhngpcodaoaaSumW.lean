/- The sum of bytes: journal's more and Sum, the document's Sum. -/
import Derived.Test.YtbcjhngpcodaoaaBytes
import Derived.Test.YtbcjhngpcodaoaaKeyW
namespace Go.Proofs.Ytbcjhngpcodaoaa
open Go.RowKit
set_option linter.unusedVariables false
set_option maxRecDepth 100000

/-- one step of the sum -/
def smS (s z : Int) : Int := bits .xor .u32 s z * 16777619 % 4294967296
/-- the sum of bytes -/
def sm (s : Int) (l : List Int) : Int := l.foldl smS s
theorem sm_append (s : Int) (a b : List Int) : sm s (a ++ b) = sm (sm s a) b := by simp [sm]
theorem smS_range (s z : Int) : 0 ≤ smS s z ∧ smS s z ≤ 4294967295 := by unfold smS; omega
theorem sm_range : ∀ (l : List Int) (s : Int), 0 ≤ s → s ≤ 4294967295 → 0 ≤ sm s l ∧ sm s l ≤ 4294967295
  | [], s, h0, h1 => ⟨h0, h1⟩
  | z :: l, s, _, _ => by
    have h := smS_range s z
    exact sm_range l (smS s z) h.1 h.2
theorem sm_take {zs : List Int} {k : Nat} (h : k < zs.length) (s : Int) : sm s (zs.take (k + 1)) = smS (sm s (zs.take k)) (zs.getD k 0) := by
  rw [List.take_succ_eq_append_getElem h, sm_append, List.getD_eq_getElem?_getD, List.getElem?_eq_getElem h]
  rfl

set_option maxHeartbeats 1600000 in
theorem more_any (s : Int) (a : Option Addr) (len cap : Nat) (zs : List Int) (w : World) (h : IsB w a len zs) (h0 : 0 ≤ s) (h1 : s ≤ 4294967295) :
    Calls Try.prog 77 #[.int .u32 s, .slice a len cap] w fun e w' => e = .returned (.int .u32 (sm s zs)) ∧ w' = w := by
  have hm := h.2.1
  have H := Lib.hid h
  have hl := h.1
  have HL := Lib.hid hl
  clear h hl
  go_enter Try.func77, Try.ntmps77
  go_wp2
  go_loop [0, 9] (fun n i => ∃ (k : Nat) (N : Int), k ≤ len ∧ i = .int .i64 (k : Int) ∧ n = .int .u32 N ∧ Hid (N = sm s (zs.take k) ∧ 0 ≤ N ∧ N ≤ 4294967295)) (fun _ i => len - (intOf i).toNat)
  case atStart => exact ⟨0, s, by omega, rfl, rfl, Lib.hid ⟨rfl, h0, h1⟩⟩
  case round =>
    obtain ⟨k, N, hk, rfl, rfl, HN⟩ := hrel
    by_cases hlt : k < len
    · obtain ⟨_, _, hcell, hbn⟩ := H.out
      rcases hcell with hcell | ⟨b, off, rfl, hcell⟩
      · omega
      have hc0 := hcell k hlt
      obtain ⟨hx0, hx1⟩ := hbn k
      have hki : (k : Int) < (len : Int) := by omega
      have hk0 : (0 : Int) ≤ (k : Int) := by omega
      have n0 := HN.out.2.1
      have n1 := HN.out.2.2
      have HE := Lib.hid (show smS N (zs.getD k 0) = sm s (zs.take (k + 1)) by rw [sm_take (by rw [HL.out]; exact hlt), HN.out.1])
      clear hcell hbn
      generalize zs.getD k 0 = c at *
      go_wp2
      go_round
      case rel => exact ⟨k + 1, smS N c, by omega, by go_num, rfl, Lib.hid ⟨HE.out, smS_range _ _⟩⟩
      case measure => simp [intOf]; omega
    · have HE := Lib.hid (show N = sm s zs by rw [HN.out.1, List.take_of_length_le (by rw [HL.out]; omega)])
      go_wp2
      go_ret
      exact ⟨by rw [HE.out]; rfl, rfl⟩

theorem sum_any (a : Option Addr) (len cap : Nat) (zs : List Int) (w : World) (h : IsB w a len zs) :
    Calls Try.prog 65 #[.slice a len cap] w fun e w' => e = .returned (.int .u32 (sm 2166136261 zs)) ∧ w' = w := by
  have H := Lib.hid h
  clear h
  go_enter Try.func65, Try.ntmps65
  go_wp2_with fail
  refine (more_any 2166136261 a len cap zs _ H.out (by omega) (by omega)).mono ?_
  rintro e w1 ⟨rfl, rfl⟩
  go_wp2
  go_ret
  exact ⟨rfl, rfl⟩

set_option maxHeartbeats 1600000 in
theorem rsum_any (a : Option Addr) (len cap : Nat) (zs : List Int) (w : World) (h : IsB w a len zs) :
    Calls Try.prog 123 #[.slice a len cap] w fun e w' => e = .returned (.int .u32 (sm 2166136261 zs)) ∧ w' = w := by
  have hm := h.2.1
  have H := Lib.hid h
  have hl := h.1
  have HL := Lib.hid hl
  clear h hl
  go_enter Try.func123, Try.ntmps123
  go_wp2
  go_loop [3, 7] (fun n i => ∃ (k : Nat) (N : Int), k ≤ len ∧ i = .int .i64 (k : Int) ∧ n = .int .u32 N ∧ Hid (N = sm 2166136261 (zs.take k) ∧ 0 ≤ N ∧ N ≤ 4294967295)) (fun _ i => len - (intOf i).toNat)
  case atStart => exact ⟨0, 2166136261, by omega, rfl, rfl, Lib.hid ⟨rfl, by omega, by omega⟩⟩
  case round =>
    obtain ⟨k, N, hk, rfl, rfl, HN⟩ := hrel
    by_cases hlt : k < len
    · obtain ⟨_, _, hcell, hbn⟩ := H.out
      rcases hcell with hcell | ⟨b, off, rfl, hcell⟩
      · omega
      have hc0 := hcell k hlt
      obtain ⟨hx0, hx1⟩ := hbn k
      have hki : (k : Int) < (len : Int) := by omega
      have hk0 : (0 : Int) ≤ (k : Int) := by omega
      have n0 := HN.out.2.1
      have n1 := HN.out.2.2
      have HE := Lib.hid (show smS N (zs.getD k 0) = sm 2166136261 (zs.take (k + 1)) by rw [sm_take (by rw [HL.out]; exact hlt), HN.out.1])
      clear hcell hbn
      generalize zs.getD k 0 = c at *
      go_wp2
      go_round
      case rel => exact ⟨k + 1, smS N c, by omega, by go_num, rfl, Lib.hid ⟨HE.out, smS_range _ _⟩⟩
      case measure => simp [intOf]; omega
    · have HE := Lib.hid (show N = sm 2166136261 zs by rw [HN.out.1, List.take_of_length_le (by rw [HL.out]; omega)])
      go_wp2
      go_ret
      exact ⟨by rw [HE.out]; rfl, rfl⟩

theorem fits_any (n : Int) (w : World) (h0 : -9223372036854775808 ≤ n) (h1 : n ≤ 9223372036854775807) :
    Calls Try.prog 74 #[.int .i64 n] w fun e w' => e = .returned (.bool (decide (0 ≤ n ∧ n ≤ 10000))) ∧ w' = w := by
  by_cases a : 0 ≤ n
  · by_cases b : n ≤ 10000
    · rw [show decide (0 ≤ n ∧ n ≤ 10000) = true from decide_eq_true ⟨a, b⟩]
      go_enter Try.func74, Try.ntmps74
      go_wp2
      go_ret
      exact ⟨by simp, rfl⟩
    · rw [show decide (0 ≤ n ∧ n ≤ 10000) = false from decide_eq_false (fun h => b h.2)]
      go_enter Try.func74, Try.ntmps74
      go_wp2
      go_ret
      exact ⟨by simp, rfl⟩
  · rw [show decide (0 ≤ n ∧ n ≤ 10000) = false from decide_eq_false (fun h => a h.1)]
    go_enter Try.func74, Try.ntmps74
    go_wp2
    go_ret
    exact ⟨by simp, rfl⟩
end Go.Proofs.Ytbcjhngpcodaoaa
