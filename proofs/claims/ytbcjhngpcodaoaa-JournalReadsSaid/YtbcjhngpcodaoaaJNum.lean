/- Contracts of bigend's Number and the document's of: numbers of bytes. -/
import Derived.Test.YtbcjhngpcodaoaaBytes
import Derived.Deep.QuietTactic
import Derived.BigQuiet
namespace Go.Proofs.Ytbcjhngpcodaoaa
open Go.RowKit
set_option linter.unusedVariables false
set_option maxRecDepth 100000

/-- the number whose bytes these are, the highest first -/
def numN (l : List Int) : Int := l.foldl (fun n z => n * 256 + z) 0
theorem numN_take {zs : List Int} {k : Nat} (h : k < zs.length) : numN (zs.take (k + 1)) = numN (zs.take k) * 256 + zs.getD k 0 := by
  unfold numN
  rw [List.take_succ_eq_append_getElem h, List.foldl_append, List.getD_eq_getElem?_getD, List.getElem?_eq_getElem h]
  rfl
theorem numN_bd {zs : List Int} (hz : ∀ i, 0 ≤ zs.getD i 0 ∧ zs.getD i 0 ≤ 255) : ∀ k, k ≤ zs.length → 0 ≤ numN (zs.take k) ∧ numN (zs.take k) ≤ 256 ^ k - 1
  | 0, _ => by simp [numN]
  | k + 1, h => by
    obtain ⟨h0, h1⟩ := numN_bd hz k (by omega)
    rw [numN_take (by omega), Int.pow_succ]
    have := hz k
    omega
theorem bits_or_u64_nj (a b : Nat) (ha : a < 18446744073709551616) (hb : b < 18446744073709551616) : bits .or .u64 (a : Int) (b : Int) = ((a ||| b : Nat) : Int) := by
  have hx : a ||| b < 2 ^ 64 := Nat.or_lt_two_pow (by omega) (by omega)
  have h1 : (BitVec.ofInt 64 (a : Int)).toNat = a := by
    rw [BitVec.ofInt_natCast, BitVec.toNat_ofNat]; exact Nat.mod_eq_of_lt (by omega)
  have h2 : (BitVec.ofInt 64 (b : Int)).toNat = b := by
    rw [BitVec.ofInt_natCast, BitVec.toNat_ofNat]; exact Nat.mod_eq_of_lt (by omega)
  show IntKind.u64.wrap ((BitVec.ofInt 64 (a : Int) ||| BitVec.ofInt 64 (b : Int)).toNat : Int) = _
  rw [BitVec.toNat_or, h1, h2, IntKind.wrap_u64]
  omega
theorem or_low (N c : Int) (h0 : 0 ≤ N) (h1 : N ≤ 72057594037927935) (c0 : 0 ≤ c) (c1 : c ≤ 255) : bits .or .u64 (N * 256) c = N * 256 + c := by
  obtain ⟨n, rfl⟩ := Int.eq_ofNat_of_zero_le h0
  obtain ⟨m, rfl⟩ := Int.eq_ofNat_of_zero_le c0
  rw [show (n : Int) * 256 = ((2 ^ 8 * n : Nat) : Int) by omega, bits_or_u64_nj _ _ (by omega) (by omega), ← Nat.two_pow_add_eq_or_of_lt (by omega)]
  omega

set_option maxHeartbeats 1600000 in
theorem number_any (a : Option Addr) (len cap : Nat) (zs : List Int) (w : World) (h : IsB w a len zs) (h8 : len ≤ 8) :
    Calls Try.prog 125 #[.slice a len cap] w fun e w' => e = .returned (.int .u64 (numN zs)) ∧ w' = w := by
  have H := Lib.hid h
  have HL := Lib.hid h.1
  have HB := Lib.hid (numN_bd h.2.2.2)
  clear h
  go_enter Try.func125, Try.ntmps125
  go_wp2
  go_loop [3, 8] (fun n i => ∃ (k : Nat) (N : Int), k ≤ len ∧ i = .int .i64 (k : Int) ∧ n = .int .u64 N ∧ Hid (N = numN (zs.take k))) (fun _ i => len - (intOf i).toNat)
  case atStart => exact ⟨0, 0, by omega, rfl, rfl, Lib.hid rfl⟩
  case round =>
    obtain ⟨k, N, hk, rfl, rfl, HN⟩ := hrel
    by_cases hlt : k < len
    · obtain ⟨_, _, hcell, hbn⟩ := H.out
      rcases hcell with hcell | ⟨b, off, rfl, hcell⟩
      · omega
      have hc0 := hcell k hlt
      obtain ⟨hx0, hx1⟩ := hbn k
      have hki : (k : Int) < (len : Int) := by omega
      have hk0 : (0 : Int) ≤ (k : Int) := by omega
      have hbd := HB.out k (by rw [HL.out]; exact hk)
      rw [← HN.out] at hbd
      have hN1 : N ≤ 72057594037927935 := by
        have : (256 : Int) ^ k ≤ 256 ^ 7 := by
          have := Nat.pow_le_pow_right (n := 256) (by omega) (show k ≤ 7 by omega)
          exact_mod_cast this
        omega
      have hN0 := hbd.1
      have HE := Lib.hid (show numN (zs.take (k + 1)) = N * 256 + zs.getD k 0 by rw [numN_take (by rw [HL.out]; exact hlt), HN.out])
      have hor := or_low N (zs.getD k 0) hN0 hN1 hx0 hx1
      clear hcell hbn hbd
      generalize zs.getD k 0 = c at *
      go_wp2
      go_round
      case rel => exact ⟨k + 1, N * 256 + c, by omega, by go_num, rfl, Lib.hid HE.out.symm⟩
      case measure => simp [intOf]; omega
    · have HE := Lib.hid (show N = numN zs by rw [HN.out, List.take_of_length_le (by rw [HL.out]; omega)])
      go_wp2
      go_ret
      exact ⟨by rw [HE.out]; rfl, rfl⟩

theorem bits_or_u32_nj (a b : Nat) (ha : a < 4294967296) (hb : b < 4294967296) : bits .or .u32 (a : Int) (b : Int) = ((a ||| b : Nat) : Int) := by
  have hx : a ||| b < 2 ^ 32 := Nat.or_lt_two_pow (by omega) (by omega)
  have h1 : (BitVec.ofInt 32 (a : Int)).toNat = a := by
    rw [BitVec.ofInt_natCast, BitVec.toNat_ofNat]; exact Nat.mod_eq_of_lt (by omega)
  have h2 : (BitVec.ofInt 32 (b : Int)).toNat = b := by
    rw [BitVec.ofInt_natCast, BitVec.toNat_ofNat]; exact Nat.mod_eq_of_lt (by omega)
  show IntKind.u32.wrap ((BitVec.ofInt 32 (a : Int) ||| BitVec.ofInt 32 (b : Int)).toNat : Int) = _
  rw [BitVec.toNat_or, h1, h2, IntKind.wrap_u32]
  omega
theorem or32 (i : Nat) (n c : Int) (h0 : 0 ≤ n) (c0 : 0 ≤ c) (c1 : c < 2 ^ i) (h1 : n * 2 ^ i + c < 4294967296) : bits .or .u32 (n * 2 ^ i) c = n * 2 ^ i + c := by
  obtain ⟨m, rfl⟩ := Int.eq_ofNat_of_zero_le h0
  obtain ⟨d, rfl⟩ := Int.eq_ofNat_of_zero_le c0
  have e : (m : Int) * 2 ^ i = ((2 ^ i * m : Nat) : Int) := by push_cast; exact Int.mul_comm _ _
  rw [e] at h1 ⊢
  have hd : d < 2 ^ i := by exact_mod_cast c1
  rw [bits_or_u32_nj _ _ (by omega) (by omega), ← Nat.two_pow_add_eq_or_of_lt hd]
  omega

set_option maxHeartbeats 1600000 in
theorem of_any (a : Option Addr) (len cap : Nat) (zs : List Int) (w : World) (h : IsB w a len zs) (h4 : 4 ≤ len) :
    Calls Try.prog 71 #[.slice a len cap] w fun e w' => e = .returned (.int .u32 (numN (zs.take 4))) ∧ ∃ n, w' = w.drewN n := by
  obtain ⟨hl, hm, hcell, hbn⟩ := h
  rcases hcell with hcell | ⟨b, off, rfl, hcell⟩
  · omega
  have c0 := hcell 0 (by omega)
  have c1 := hcell 1 (by omega)
  have c2 := hcell 2 (by omega)
  have c3 := hcell 3 (by omega)
  rw [Nat.add_zero] at c0
  have hN : numN (zs.take 4) = zs.getD 0 0 * 16777216 + zs.getD 1 0 * 65536 + zs.getD 2 0 * 256 + zs.getD 3 0 := by
    rw [numN_take (by omega), numN_take (by omega), numN_take (by omega), numN_take (by omega), show numN (zs.take 0) = 0 from rfl]
    omega
  have HN := Lib.hid hN
  obtain ⟨x00, x01⟩ := hbn 0
  obtain ⟨x10, x11⟩ := hbn 1
  obtain ⟨x20, x21⟩ := hbn 2
  obtain ⟨x30, x31⟩ := hbn 3
  have hlen : (4 : Int) ≤ (len : Int) := by omega
  have o1 := or32 24 (zs.getD 0 0) (zs.getD 1 0 * 65536) x00 (by omega) (by omega) (by omega)
  have o2 := or32 16 (zs.getD 0 0 * 256 + zs.getD 1 0) (zs.getD 2 0 * 256) (by omega) (by omega) (by omega) (by omega)
  have o3 := or32 8 ((zs.getD 0 0 * 256 + zs.getD 1 0) * 256 + zs.getD 2 0) (zs.getD 3 0) (by omega) (by omega) (by omega) (by omega)
  rw [show zs.getD 0 0 * 2 ^ 24 = zs.getD 0 0 * 16777216 by omega] at o1
  rw [show (zs.getD 0 0 * 256 + zs.getD 1 0) * 2 ^ 16 = zs.getD 0 0 * 16777216 + zs.getD 1 0 * 65536 by omega] at o2
  rw [show ((zs.getD 0 0 * 256 + zs.getD 1 0) * 256 + zs.getD 2 0) * 2 ^ 8 = zs.getD 0 0 * 16777216 + zs.getD 1 0 * 65536 + zs.getD 2 0 * 256 by omega] at o3
  have l0 : (0 : Int) < (len : Int) := by omega
  have l1 : (1 : Int) < (len : Int) := by omega
  have l2 : (2 : Int) < (len : Int) := by omega
  have l3 : (3 : Int) < (len : Int) := by omega
  clear hcell hbn hN hl
  generalize zs.getD 0 0 = y0 at *
  generalize zs.getD 1 0 = y1 at *
  generalize zs.getD 2 0 = y2 at *
  generalize zs.getD 3 0 = y3 at *
  have s0 : IntKind.u32.wrap (y0 * 16777216) = y0 * 16777216 := by rw [IntKind.wrap_u32]; omega
  have s1 : IntKind.u32.wrap (y1 * 65536) = y1 * 65536 := by rw [IntKind.wrap_u32]; omega
  have s2 : IntKind.u32.wrap (y2 * 256) = y2 * 256 := by rw [IntKind.wrap_u32]; omega
  have s3 : IntKind.u32.wrap y0 = y0 := by rw [IntKind.wrap_u32]; omega
  have s4 : IntKind.u32.wrap y1 = y1 := by rw [IntKind.wrap_u32]; omega
  have s5 : IntKind.u32.wrap y2 = y2 := by rw [IntKind.wrap_u32]; omega
  have s6 : IntKind.u32.wrap y3 = y3 := by rw [IntKind.wrap_u32]; omega
  go_enter Try.func71, Try.ntmps71
  go_wp2
  go_quiet (fail)
  go_wp2
  go_ret
  exact ⟨by rw [HN.out]; rfl, _, rfl⟩
end Go.Proofs.Ytbcjhngpcodaoaa
