/- ValueBack: the law's walk; condition: both numbers are int64. -/
import Derived.Test.YtkicipjaefmahaaRecL
namespace Go.Proofs.Ytkicipjaefmahaa
open Go.RowKit

theorem formed_int (a : Int) : formedB 1 a ⟨#[]⟩ = true := by unfold formedB; simp
theorem recF_int {op : ByteArray} (hk : known3 op = true) (a b : Int) : recF op 1 a ⟨#[]⟩ 1 b ⟨#[]⟩ = if fitB (opI op a b) = true then (1, opI op a b, 0) else (0, 0, 13) := by
  unfold recF; rw [if_neg (by rw [hk, formed_int, formed_int]; simp), if_neg (by decide), if_neg (by decide)]
theorem rec_add (a b : Int) : recF ⟨#[43]⟩ 1 a ⟨#[]⟩ 1 b ⟨#[]⟩ = if fitB (a + b) = true then (1, a + b, 0) else (0, 0, 13) := by rw [recF_int (by decide +kernel), opI_add]
theorem rec_sub (a b : Int) : recF ⟨#[45]⟩ 1 a ⟨#[]⟩ 1 b ⟨#[]⟩ = if fitB (a - b) = true then (1, a - b, 0) else (0, 0, 13) := by rw [recF_int (by decide +kernel), opI_sub]
theorem rec_mul (a b : Int) : recF ⟨#[42]⟩ 1 a ⟨#[]⟩ 1 b ⟨#[]⟩ = if fitB (a * b) = true then (1, a * b, 0) else (0, 0, 13) := by rw [recF_int (by decide +kernel), opI_mul]
theorem rec_mul_comm (a b : Int) : recF ⟨#[42]⟩ 1 b ⟨#[]⟩ 1 a ⟨#[]⟩ = recF ⟨#[42]⟩ 1 a ⟨#[]⟩ 1 b ⟨#[]⟩ := by rw [rec_mul, rec_mul, Int.mul_comm]

set_option maxHeartbeats 2000000 in
theorem valueBack_walk (a b : Int) (ha : Hid (InR a)) (hb : Hid (InR b)) (w : World) :
    Calls Try.prog 7 #[.int .i64 a, .int .i64 b] w fun x w' => x = .returned (.bool true) ∧ Below w.heap.size w w' := by
  obtain ⟨k, n, e, hne⟩ : ∃ k n e, recF ⟨#[42]⟩ 1 a ⟨#[]⟩ 1 b ⟨#[]⟩ = (k, n, e) := ⟨_, _, _, rfl⟩
  have HN := Lib.hid hne
  have HM := Lib.hid ((rec_mul_comm a b).trans hne)
  clear hne
  rcases hf : fitB (a + b) with _ | _
  · have HS := Lib.hid (show recF ⟨#[43]⟩ 1 a ⟨#[]⟩ 1 b ⟨#[]⟩ = (0, 0, 13) by rw [rec_add, hf]; rfl)
    clear hf
    go_enter Try.func7, Try.ntmps7
    go_wp2_with fail
    refine (awake_any _).mono ?_
    rintro e w1 ⟨rfl, hb1⟩
    have HB1 := Lib.hid hb1
    clear hb1
    go_wp2_with fail
    refine (rec24_any _ _ _ _ _ _ _ ha hb _ _ _ HS.out _).mono ?_
    rintro e w2 ⟨rfl, hb2⟩
    obtain ⟨hc2, hf2⟩ := bcell hb2
    have hz2 : w1.heap.size < w2.heap.size := by have := hb2.size; simp at this; omega
    have hz3 : w1.heap.size + 1 < w2.heap.size := by have := hb2.size; simp at this; omega
    have HB2 := Lib.hid hb2
    clear hb2
    unfold recE
    go_wp2_with fail
    refine (rec24_any _ _ _ _ _ _ _ ha hb _ _ _ HN.out _).mono ?_
    rintro e w3 ⟨rfl, hb3⟩
    obtain ⟨hc3, hf3⟩ := bcell hb3
    have hz4 : w1.heap.size < w3.heap.size := by have := hb3.size; simp at this; omega
    have hz5 : w1.heap.size + 1 < w3.heap.size := by have := hb3.size; simp at this; omega
    have HB3 := Lib.hid hb3
    clear hb3
    unfold recE
    go_wp2_with fail
    refine (rec24_any _ _ _ _ _ _ _ hb ha _ _ _ HM.out _).mono ?_
    rintro e w4 ⟨rfl, hb4⟩
    obtain ⟨hc4, hf4⟩ := bcell hb4
    have hz6 : w3.heap.size < w4.heap.size := by have := hb4.size; simp at this; omega
    have HB4 := Lib.hid hb4
    clear hb4
    unfold recE
    go_wp2_with fail
    go_ret
    have e1 := bel (.cells #[.int .i64 1, .int .i64 b, .string ⟨#[]⟩] 23) (bel (.cells #[.int .i64 1, .int .i64 a, .string ⟨#[]⟩] 23) HB1.out)
    have e2 := bt e1 HB2.out (Nat.le_refl _)
    have e3 := bt (bel _ e2) HB3.out (Nat.le_refl _)
    have e4 := bt (bel _ e3) HB4.out (Nat.le_refl _)
    exact ⟨rfl, bel _ e4⟩
  · have HS := Lib.hid (show recF ⟨#[43]⟩ 1 a ⟨#[]⟩ 1 b ⟨#[]⟩ = (1, a + b, 0) by rw [rec_add, hf]; rfl)
    have hD : fitB (a + b - b) = true := by rw [Int.add_sub_cancel, fitB_iff]; exact ha.out
    have HD := Lib.hid (show recF ⟨#[45]⟩ 1 (a + b) ⟨#[]⟩ 1 b ⟨#[]⟩ = (1, a, 0) by rw [rec_sub, hD, Int.add_sub_cancel]; rfl)
    have hs : Hid (InR (a + b)) := Lib.hid ((fitB_iff _).1 hf)
    clear hf hD
    go_enter Try.func7, Try.ntmps7
    go_wp2_with fail
    refine (awake_any _).mono ?_
    rintro e w1 ⟨rfl, hb1⟩
    have HB1 := Lib.hid hb1
    clear hb1
    go_wp2_with fail
    refine (rec24_any _ _ _ _ _ _ _ ha hb _ _ _ HS.out _).mono ?_
    rintro e w2 ⟨rfl, hb2⟩
    obtain ⟨hc2, hf2⟩ := bcell hb2
    have hz2 : w1.heap.size < w2.heap.size := by have := hb2.size; simp at this; omega
    have hz3 : w1.heap.size + 1 < w2.heap.size := by have := hb2.size; simp at this; omega
    have HB2 := Lib.hid hb2
    clear hb2
    unfold recE
    go_wp2_with fail
    refine (rec24_any _ _ _ _ _ _ _ ha hb _ _ _ HN.out _).mono ?_
    rintro e w3 ⟨rfl, hb3⟩
    obtain ⟨hc3, hf3⟩ := bcell hb3
    have hz4 : w1.heap.size < w3.heap.size := by have := hb3.size; simp at this; omega
    have hz5 : w1.heap.size + 1 < w3.heap.size := by have := hb3.size; simp at this; omega
    have hz7 : w2.heap.size < w3.heap.size := by have := hb3.size; simp at this; omega
    have HB3 := Lib.hid hb3
    clear hb3
    unfold recE
    go_wp2_with fail
    refine (rec24_any _ _ _ _ _ _ _ hb ha _ _ _ HM.out _).mono ?_
    rintro e w4 ⟨rfl, hb4⟩
    obtain ⟨hc4, hf4⟩ := bcell hb4
    have hz6 : w3.heap.size < w4.heap.size := by have := hb4.size; simp at this; omega
    have hz8 : w2.heap.size < w4.heap.size := by have := hb4.size; simp at this; omega
    have hz9 : w1.heap.size < w4.heap.size := by omega
    have hz10 : w1.heap.size + 1 < w4.heap.size := by omega
    have HB4 := Lib.hid hb4
    clear hb4
    unfold recE
    go_wp2_with fail
    refine (rec24_any _ _ _ _ _ _ _ hs hb _ _ _ HD.out _).mono ?_
    rintro e w5 ⟨rfl, hb5⟩
    obtain ⟨hc5, hf5⟩ := bcell hb5
    have hz11 : w1.heap.size < w5.heap.size := by have := hb5.size; simp at this; omega
    have HB5 := Lib.hid hb5
    clear hb5
    unfold recE
    go_wp2_with fail
    go_ret
    have e1 := bel (.cells #[.int .i64 1, .int .i64 b, .string ⟨#[]⟩] 23) (bel (.cells #[.int .i64 1, .int .i64 a, .string ⟨#[]⟩] 23) HB1.out)
    have e2 := bt e1 HB2.out (Nat.le_refl _)
    have e3 := bt (bel _ e2) HB3.out (Nat.le_refl _)
    have e4 := bt (bel _ e3) HB4.out (Nat.le_refl _)
    have e5 := bt (bel _ e4) HB5.out (Nat.le_refl _)
    exact ⟨rfl, bel _ e5⟩
end Go.Proofs.Ytkicipjaefmahaa
