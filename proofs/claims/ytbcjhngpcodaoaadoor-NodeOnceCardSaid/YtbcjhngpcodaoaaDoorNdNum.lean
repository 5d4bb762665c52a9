/- Contracts of the document's Number and Signed: every number. -/
import Derived.Test.YtbcjhngpcodaoaaDoorAppW
import Derived.Test.YtbcjhngpcodaoaaDoorSigPure
import Derived.Test.YtbcjhngpcodaoaaDoorApp1
import Derived.Test.YtbcjhngpcodaoaaDoorNumPure
namespace Go.Proofs.YtbcjhngpcodaoaaDoor
open Go.RowKit
set_option linter.unusedVariables false

/-- a row of the call's own that reads as a number's bytes -/
def NumPost (w : World) (n : Int) (e : Ending) (w' : World) : Prop :=
  ∃ g cap, e = .returned (.slice (some ⟨g, 0, none⟩) (groups n) cap) ∧ w'.ownsRow w.heap.size 5 1 (.slice (some ⟨g, 0, none⟩) (groups n) cap) (groups n) ((enc n).map (Value.int .u8)) ∧ Below w.heap.size w w'

theorem and127u (n : Int) (h0 : 0 ≤ n) (h1 : n ≤ 18446744073709551615) : bits .and .u64 n 127 = n % 128 := by
  obtain ⟨m, rfl⟩ := Int.eq_ofNat_of_zero_le h0
  have := bits_and_u64_nat m 127 (by omega) (by omega)
  rw [show ((127 : Nat) : Int) = 127 from rfl] at this
  rw [this, show (127 : Nat) = 2 ^ 7 - 1 from rfl, Nat.and_two_pow_sub_one_eq_mod]
  simp

theorem or128r_nat : ∀ x : Fin 128, x.val ||| 128 = 128 + x.val := by decide +kernel
theorem or128r (n : Int) (h0 : 0 ≤ n) (h1 : n ≤ 18446744073709551615) : bits .or .u8 (bits .and .u64 n 127 % 256) 128 = 128 + n % 128 := by
  rw [and127u n h0 h1]
  obtain ⟨m, rfl⟩ := Int.eq_ofNat_of_zero_le h0
  have e : (m : Int) % 128 % 256 = ((m % 128 : Nat) : Int) := by omega
  have := bits_or_u8_nat (m % 128) 128 (by omega) (by omega)
  rw [e, show (128 : Int) = ((128 : Nat) : Int) from rfl, this, or128r_nat ⟨m % 128, by omega⟩]
  simp
theorem low_u8 (n : Int) (h0 : 0 ≤ n) (h1 : n ≤ 18446744073709551615) : bits .and .u64 n 127 % 256 = n % 128 := by rw [and127u n h0 h1]; omega

/-- the loop's relation: r rounds behind -/
def NumRel (w : World) (n : Int) (nv v : Value) (wr : World) : Prop :=
  ∃ (r g cap : Nat), r ≤ 9 ∧ nv = .int .u64 (n / 2 ^ (7 * (r + 1))) ∧ v = .slice (some ⟨g, 0, none⟩) (r + 1) cap ∧ wr.ownsRow w.heap.size 5 1 v (r + 1) ((dl n r ++ [n % 128]).map (Value.int .u8)) ∧ Below w.heap.size w wr ∧ (r = 0 ∨ 0 < n / 2 ^ (7 * r))

theorem div_zero9 (n : Int) (h0 : 0 ≤ n) (h1 : n ≤ 18446744073709551615) : n / 2 ^ (7 * (9 + 1)) = 0 := Int.ediv_eq_zero_of_lt h0 (by omega)

set_option maxHeartbeats 1600000 in
theorem number_any (n : Int) (h0 : 0 ≤ n) (h1 : n ≤ 18446744073709551615) (w : World) :
    Calls Tryd.prog 38 #[.int .u64 n] w (NumPost w n) := by
  obtain ⟨i0, hi, hz0, hz1, hz2⟩ := info_parts info5
  go_enter Tryd.func38, Tryd.ntmps38
  go_wp2
  go_loopw [0, 3] (NumRel w n) (fun nv _ _ => (intOf nv).toNat)
  case atStart =>
    refine ⟨0, w.heap.size, 1, by omega, by rw [div_step]; simp, rfl, ?_, bel0 _ (Below.refl _ _), .inl rfl⟩
    have := World.ownsRow_lit (base := w.heap.size) (e := 5) (size := 1) w #[Value.int .u8 (bits .and .u64 n 127 % 256)] 1 (Nat.le_refl _) (by unfold maxLen; omega) rfl
    rw [low_u8 n h0 h1] at *
    exact this
  case round =>
    obtain ⟨r, g, cap, hr, rfl, rfl, hown, hb, hp⟩ := hrel
    have hd := div_le n h0 (r + 1)
    have hds := div_step n (r + 1)
    have HD := Lib.hid hds
    generalize hN : n / 2 ^ (7 * (r + 1)) = N at *
    have HN := Lib.hid hN
    have HO := Lib.hid hown
    have HB := Lib.hid hb
    have HP := Lib.hid hp
    clear hN hds hown hb hp
    by_cases hpos : 0 < N
    · have hr9 : r < 9 := by
        rcases Nat.lt_or_ge r 9 with h | h
        · exact h
        · have h9 : r = 9 := by omega
          have := HN.out; rw [h9, div_zero9 n h0 h1] at this; omega
      have hlen : (dl n r ++ [n % 128]).length = r + 1 := by simp [dl_length]
      have HL := Lib.hid hlen
      clear hlen
      go_wp2_with (at_builtin; refine wpList_append_own _ rfl _ _ 29 rfl w.heap.size 5 i0 (.int .u8 0) 1 1 Tryd.underlying29 hi hz0 hz1 hz2 rfl (by decide) _ 1 [Value.int .u8 (bits .or .u8 (bits .and .u64 N 127 % 256) 128)] rfl ?c0 ⟨g, 0, none⟩ (r + 1) cap ((dl n r ++ [n % 128]).map (Value.int .u8)) rfl ?c1 ?c2 ?c3 ?c4 ?c5 ?c6 ?_)
      case c0 => exact World.ownsRow_lit (base := w.heap.size) (e := 5) (size := 1) wr #[Value.int .u8 (bits .or .u8 (bits .and .u64 N 127 % 256) 128)] 1 HB.out.size (by unfold maxLen; omega) rfl
      case c1 => rw [List.length_map, HL.out, Nat.mul_one]
      case c2 =>
        intro j u hu
        have hj : j < r + 1 := by
          rcases Nat.lt_or_ge j (r + 1) with h | h
          · exact h
          · rw [List.getElem?_eq_none (by rw [List.length_map, HL.out]; omega)] at hu; cases hu
        have hc := (HO.out.alloc (.cells #[Value.int .u8 (bits .or .u8 (bits .and .u64 N 127 % 256) 128)] 5)).cellAt j (by omega)
        have e : Addr.add ⟨g, 0, none⟩ j = ⟨g, j, none⟩ := by
          by_cases h : j = 0
          · subst h; rfl
          · simp [Addr.add, h]
        rw [e, hc, hu]
      case c3 => intro u hu; obtain ⟨x, _, rfl⟩ := List.mem_map.1 hu; rfl
      case c4 => unfold maxLen; omega
      case c5 => omega
      case c6 => have := HB.out.size; simp; omega
      intro v' w3 hown3 hgrow3 _
      obtain ⟨g', cap', rfl⟩ := own_addr hown3 (by omega)
      have hb3 : Below w.heap.size w w3 := (bel0 _ HB.out).grown hgrow3 (by have := HB.out.size; simp; omega) (fun k hk => by cases hk; exact HB.out.size)
      have HO3 := Lib.hid hown3
      have HB3 := Lib.hid hb3
      clear hown3 hgrow3 hb3
      go_wp2
      go_roundw
      case rel =>
        refine ⟨r + 1, g', cap', by omega, by rw [HD.out], by rw [Nat.add_comm], ?_, HB3.out, .inr (by rw [HN.out]; exact hpos)⟩
        have := HO3.out
        rw [or128r N hd.1 (by omega)] at this
        rw [Nat.add_comm (r + 1) 1]
        simpa [dl, HN.out] using this
      case measure => simp [intOf]; omega
    · obtain rfl : N = 0 := by omega
      have HG := Lib.hid (groups_eq n h0 h1 r HN.out HP.out)
      go_wp2
      go_ret
      refine ⟨g, cap, by rw [HG.out]; rfl, ?_, HB.out⟩
      rw [HG.out, enc_dl n r HG.out]
      exact HO.out
end Go.Proofs.YtbcjhngpcodaoaaDoor
