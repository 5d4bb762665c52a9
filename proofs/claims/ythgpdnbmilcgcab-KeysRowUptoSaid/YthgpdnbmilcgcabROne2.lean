/- Contract of the document's one: every slice of bytes that is not empty, put together. -/
import Derived.Test.YthgpdnbmilcgcabROne
namespace Go.Proofs.Ythgpdnbmilcgcab
open Go.RowKit
set_option linter.unusedVariables false

set_option maxRecDepth 100000 in
set_option maxHeartbeats 1600000 in
theorem one_none (b off len cap : Nat) (zs : List Int) (c : Int) (w : World) (h1 : 1 ≤ len) (hm : len ≤ 9223372036854775000) (hc : len ≤ cap) (hc0 : w.cell? ⟨b, off, none⟩ = some (.int .u8 c)) (h5 : c ≠ 5) (h16 : c = 16 → len < 9) (h32 : c ≠ 32) (HR : Hid (takeV zs = none)) :
    Calls Try.prog 34 #[.slice (some ⟨b, off, none⟩) len cap] w (OnePost w (some ⟨b, off, none⟩) len cap (takeV zs)) := by
  have hp : (0 : Int) < (len : Int) := by omega
  have hlt0 : b < w.heap.size := World.block_lt_of_cell? w _ hc0
  have e5 : (c == 5) = false := by rw [beq_eq_false_iff_ne]; exact h5
  have e32 : (c == 32) = false := by rw [beq_eq_false_iff_ne]; exact h32
  by_cases y : c = 16
  · have e16 : (c == 16) = true := by rw [beq_iff_eq]; exact y
    have h9 : (len : Int) < 9 := by have := h16 y; omega
    have h9' : decide ((9 : Int) ≤ (len : Int)) = false := by simp; omega
    clear h5 h16 h32 y
    go_enter Try.func34, Try.ntmps34
    go_wp2
    refine bodyPost_ret (v := .tuple #[.agg #[.int .i64 0, .int .i64 0, .string ⟨#[]⟩], .slice none 0 0, .bool false]) (by simp [results, Try.results34, go_sem]) rfl ⟨?_, .inr ⟨HR.out, noV, _, _, _, rfl⟩⟩
    repeat (first | exact Below.refl _ _ | refine Below.drew ?_ | refine bel _ ?_)
  · have e16 : (c == 16) = false := by rw [beq_eq_false_iff_ne]; exact y
    clear h5 h16 h32 y
    go_enter Try.func34, Try.ntmps34
    go_wp2
    refine bodyPost_ret (v := .tuple #[.agg #[.int .i64 0, .int .i64 0, .string ⟨#[]⟩], .slice none 0 0, .bool false]) (by simp [results, Try.results34, go_sem]) rfl ⟨?_, .inr ⟨HR.out, noV, _, _, _, rfl⟩⟩
    repeat (first | exact Below.refl _ _ | refine Below.drew ?_ | refine bel _ ?_)

theorem one_any (a : Option Addr) (len cap : Nat) (zs : List Int) (w : World) (h : IsB w a len zs) (h1 : 1 ≤ len) (hc : len ≤ cap) (hr : len ≤ 9223372036854775000) :
    Calls Try.prog 34 #[.slice a len cap] w (OnePost w a len cap (takeV zs)) := by
  obtain ⟨hl, _, hcell, hbn⟩ := h
  rcases hcell with hcell | ⟨b, off, rfl, hcell⟩
  · omega
  have HR := takeV_drop' (zs := zs) (by omega)
  have hmem : ∀ z ∈ zs, 0 ≤ z ∧ z ≤ 255 := fun z hz => by
    obtain ⟨i, hi, rfl⟩ := List.getElem_of_mem hz
    have := hbn i
    rwa [List.getD_eq_getElem?_getD, List.getElem?_eq_getElem hi] at this
  have hc0 := hcell 0 (by omega)
  rw [Nat.add_zero] at hc0
  by_cases y5 : zs.getD 0 0 = 5
  · rw [y5] at hc0 HR
    exact one_null b off len cap zs w h1 hc hc0 (Lib.hid HR)
  by_cases y32 : zs.getD 0 0 = 32
  · rw [y32] at HR
    exact one_text b off len cap zs w hl hr hmem h1 hc hcell y32 (Lib.hid HR)
  by_cases y16 : zs.getD 0 0 = 16 ∧ 9 ≤ len
  · refine one_int b off len cap zs w hl (by omega) hmem y16.2 hc hcell y16.1 (Lib.hid ?_)
    rw [HR, y16.1]
    unfold takeC
    rw [if_neg (by decide), if_pos rfl, if_neg (by rw [List.length_drop]; omega)]
  · refine one_none b off len cap zs _ w h1 hr hc hc0 y5 (fun h => by by_cases h9 : 9 ≤ len; exact absurd ⟨h, h9⟩ y16; omega) y32 (Lib.hid ?_)
    rw [HR]
    unfold takeC
    rw [if_neg y5]
    by_cases y : zs.getD 0 0 = 16
    · rw [if_pos y, if_pos (by rw [List.length_drop]; have : ¬ 9 ≤ len := fun h9 => y16 ⟨y, h9⟩; omega)]
    · rw [if_neg y, if_neg y32]
end Go.Proofs.Ythgpdnbmilcgcab
