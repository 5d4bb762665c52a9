/- Plain lemmas: Take undoes what Append writes; a number's bytes cut off are none; the greater number has no fewer. No program. -/
import Derived.Test.YtbcjhngpcodaoaaDoorAppPure
namespace Go.Proofs.YtbcjhngpcodaoaaDoor
open Go.RowKit
set_option linter.unusedVariables false

/-- the groups of the numbers j .. 1 -/
def dl (n : Int) : Nat → List Int
  | 0 => []
  | j + 1 => (128 + (n / 2 ^ (7 * (j + 1))) % 128) :: dl n j
theorem digs_dl (n : Int) (m : Nat) : ∀ c, c ≤ m → digs n m c ++ dl n (m - c) = dl n m
  | 0, _ => by simp [digs]
  | c + 1, h => by
    have ih := digs_dl n m c (by omega)
    rw [← ih, show m - c = (m - (c + 1)) + 1 by omega]
    simp [digs, dl]
    rw [show m - c = (m - (c + 1)) + 1 by omega]
theorem digs_all (n : Int) (m : Nat) : digs n m m = dl n m := by
  have := digs_dl n m m (Nat.le_refl _); simpa [dl] using this
theorem dl_length (n : Int) (j : Nat) : (dl n j).length = j := by induction j with | zero => rfl | succ j ih => simp [dl, ih]
theorem dl_high (n : Int) (h0 : 0 ≤ n) (j : Nat) : ∀ z ∈ dl n j, 128 ≤ z ∧ z ≤ 255 := by
  induction j with
  | zero => intro z hz; cases hz
  | succ j ih =>
    intro z hz
    rcases List.mem_cons.1 hz with rfl | hz
    · omega
    · exact ih z hz
theorem tk_high : ∀ (l : List Int) (i : Nat) (N : Int), (∀ z ∈ l, 128 ≤ z) → tk i N l = (0, 0, 2)
  | [], _, _, _ => rfl
  | y :: l, i, N, h => by
    unfold tk
    split
    · rfl
    · rw [if_neg (by have := h y (by simp); omega)]
      exact tk_high l _ _ fun z hz => h z (by simp [hz])
theorem takeR_high {l : List Int} (h : ∀ z ∈ l, 128 ≤ z) : takeR l = (0, 0, 2) := by
  unfold takeR; split
  · rfl
  · exact tk_high l 0 0 h

theorem div_step (n : Int) (j : Nat) : n / 2 ^ (7 * (j + 1)) = n / 2 ^ (7 * j) / 128 := by
  rw [Int.ediv_ediv_of_nonneg (Int.pow_nonneg (by omega)), show 7 * (j + 1) = 7 * j + 7 by omega, Int.pow_add]; rfl
theorem div_le (n : Int) (h0 : 0 ≤ n) (j : Nat) : 0 ≤ n / 2 ^ (7 * j) ∧ n / 2 ^ (7 * j) ≤ n := by
  induction j with
  | zero => simp; exact h0
  | succ j ih => rw [div_step]; omega

theorem tk_enc (n : Int) (h0 : 0 ≤ n) (h1 : n ≤ 18446744073709551615) (rest : List Int) : ∀ (j i : Nat), i + j ≤ 9 → tk i (n / 2 ^ (7 * (j + 1))) (dl n j ++ n % 128 :: rest) = (n, (i : Int) + j + 1, 0)
  | 0, i, h => by
    have e := div_step n 0
    simp only [Nat.mul_zero, Int.pow_zero, Int.ediv_one, Nat.zero_add] at e
    rw [e]
    show tk i (n / 128) (n % 128 :: rest) = _
    unfold tk
    rw [if_neg (by omega), if_pos (by omega), stepN_eq _ _ (by omega) (by omega) (by omega) (by omega)]
    simp; omega
  | j + 1, i, h => by
    have e := div_step n (j + 1)
    have e2 := div_step n j
    have hb := div_le n h0 j
    rw [e]
    show tk i _ ((128 + (n / 2 ^ (7 * (j + 1))) % 128) :: (dl n j ++ n % 128 :: rest)) = _
    generalize hD : n / 2 ^ (7 * (j + 1)) = D at *
    generalize n / 2 ^ (7 * j) = F at *
    unfold tk
    rw [if_neg (by omega), if_neg (by omega), stepN_eq _ _ (by omega) (by omega) (by omega) (by omega)]
    rw [show D / 128 * 128 + (128 + D % 128) % 128 = D by omega, ← hD, tk_enc n h0 h1 rest j (i + 1) (by omega)]
    simp; omega

theorem bitAux_spec : ∀ (f x : Nat), x < 2 ^ f → x < 2 ^ Lib.bitLenAux f x ∧ (x ≠ 0 → 2 ^ Lib.bitLenAux f x ≤ 2 * x)
  | 0, x, h => by simp [Lib.bitLenAux]; omega
  | f + 1, x, h => by
    unfold Lib.bitLenAux
    by_cases hx : x = 0
    · simp [hx]
    · rw [if_neg hx]
      have h2 : x / 2 < 2 ^ f := by rw [Nat.pow_succ] at h; omega
      obtain ⟨a, b⟩ := bitAux_spec f (x / 2) h2
      rw [Nat.add_comm 1, Nat.pow_succ]
      refine ⟨by omega, fun _ => ?_⟩
      by_cases h3 : x / 2 = 0
      · have : Lib.bitLenAux f (x / 2) = 0 := by rw [h3]; cases f <;> simp [Lib.bitLenAux]
        rw [this]; omega
      · have := b h3; omega

theorem groups_spec (n : Int) (h0 : 0 ≤ n) (h1 : n ≤ 18446744073709551615) : n < 2 ^ (7 * groups n) ∧ (1 < groups n → 2 ^ (7 * (groups n - 1)) ≤ n) := by
  obtain ⟨m, rfl⟩ := Int.eq_ofNat_of_zero_le h0
  have hs := bitAux_spec 64 m (by omega)
  change m < 2 ^ Lib.bitLen m ∧ (m ≠ 0 → 2 ^ Lib.bitLen m ≤ 2 * m) at hs
  have hz : m = 0 → Lib.bitLen m = 0 := by rintro rfl; rfl
  unfold groups
  rw [Int.toNat_natCast]
  generalize Lib.bitLen m = L at *
  have hG : ∃ G : Nat, (max 1 (((L : Int) + 6) / 7)).toNat = G ∧ L ≤ 7 * G ∧ (1 < G → 7 * (G - 1) < L) := ⟨_, rfl, by omega, by omega⟩
  obtain ⟨G, hG, ha, hb⟩ := hG
  rw [hG]
  constructor
  · have : (2 : Nat) ^ L ≤ 2 ^ (7 * G) := Nat.pow_le_pow_right (by omega) ha
    have h3 : m < 2 ^ (7 * G) := by omega
    exact_mod_cast h3
  · intro hG1
    have hl := hb hG1
    have hm : m ≠ 0 := by
      intro h
      have := hz h
      omega
    have h2 := hs.2 hm
    have : (2 : Nat) ^ (7 * (G - 1) + 1) ≤ 2 ^ L := Nat.pow_le_pow_right (by omega) (by omega)
    rw [Nat.pow_succ] at this
    have h3 : 2 ^ (7 * (G - 1)) ≤ m := by omega
    exact_mod_cast h3

theorem pow_pos' (k : Nat) : (0 : Int) < 2 ^ k := Int.pow_pos (by omega)

theorem enc_take (n : Int) (h0 : 0 ≤ n) (h1 : n ≤ 18446744073709551615) (rest : List Int) : takeR (enc n ++ rest) = (n, (groups n : Int), 0) := by
  obtain ⟨hG1, hG2⟩ := groups_bd n
  obtain ⟨hs1, hs2⟩ := groups_spec n h0 h1
  unfold enc encG
  generalize groups n = G at *
  rw [digs_all, List.append_assoc]
  show takeR (dl n (G - 1) ++ n % 128 :: rest) = _
  have hN : n / 2 ^ (7 * (G - 1 + 1)) = 0 := by
    rw [show G - 1 + 1 = G by omega]; exact Int.ediv_eq_zero_of_lt h0 hs1
  have ht := tk_enc n h0 h1 rest (G - 1) 0 (by omega)
  rw [hN] at ht
  unfold takeR
  rw [if_neg, ht]
  · simp; omega
  · rcases Nat.lt_or_ge 1 G with h | h
    · obtain ⟨g, rfl⟩ : ∃ g, G = g + 2 := ⟨G - 2, by omega⟩
      have hb := hs2 (by omega)
      rw [show g + 2 - 1 = g + 1 by omega] at *
      show ¬ ((128 + (n / 2 ^ (7 * (g + 1))) % 128) :: _).getD 0 0 = 128
      simp only [List.getD_cons_zero]
      have hd1 : 1 ≤ n / 2 ^ (7 * (g + 1)) := by
        rw [Int.le_ediv_iff_mul_le (pow_pos' _)]; simpa using hb
      have hd2 : n / 2 ^ (7 * (g + 1)) < 128 := by
        rw [Int.ediv_lt_iff_lt_mul (pow_pos' _)]
        have e : (2 : Int) ^ (7 * (g + 2)) = 128 * 2 ^ (7 * (g + 1)) := by
          rw [show 7 * (g + 2) = 7 + 7 * (g + 1) by omega, Int.pow_add]; rfl
        rw [← e]; exact hs1
      omega
    · obtain rfl : G = 1 := by omega
      simp [dl]; omega

theorem enc_length (n : Int) : (enc n).length = groups n := encG_length n _ (groups_bd n).1
theorem enc_cut (n : Int) (h0 : 0 ≤ n) (c : Nat) (hc : c < groups n) : takeR ((enc n).take c) = (0, 0, 2) := by
  apply takeR_high
  intro z hz
  unfold enc encG at hz
  rw [digs_all, List.take_append_of_le_length (by rw [dl_length]; omega)] at hz
  exact (dl_high n h0 _ z (List.mem_of_mem_take hz)).1
theorem enc_inj (n m : Int) (hn0 : 0 ≤ n) (hn1 : n ≤ 18446744073709551615) (hm0 : 0 ≤ m) (hm1 : m ≤ 18446744073709551615) (h : enc n = enc m) : n = m := by
  have a := enc_take n hn0 hn1 []
  have b := enc_take m hm0 hm1 []
  rw [h, b] at a
  exact (Prod.mk.inj a).1.symm
theorem groups_mono (n m : Int) (hn0 : 0 ≤ n) (hn1 : n ≤ 18446744073709551615) (hm1 : m ≤ 18446744073709551615) (h : n ≤ m) : groups n ≤ groups m := by
  rcases Nat.lt_or_ge (groups m) (groups n) with hlt | hge
  · have h1 := (groups_spec m (by omega) hm1).1
    have hg := groups_bd m
    have h2 := (groups_spec n hn0 hn1).2 (by omega)
    have h3 : (2 : Int) ^ (7 * groups m) ≤ 2 ^ (7 * (groups n - 1)) := by
      have : (2 : Nat) ^ (7 * groups m) ≤ 2 ^ (7 * (groups n - 1)) := Nat.pow_le_pow_right (by omega) (by omega)
      exact_mod_cast this
    omega
  · exact hge
theorem enc_range (n : Int) (h0 : 0 ≤ n) : ∀ z ∈ enc n, 0 ≤ z ∧ z ≤ 255 := by
  intro z hz
  unfold enc encG at hz
  rw [digs_all] at hz
  rcases List.mem_append.1 hz with hz | hz
  · have := dl_high n h0 _ z hz; omega
  · simp at hz; omega
end Go.Proofs.YtbcjhngpcodaoaaDoor
