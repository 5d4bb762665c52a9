/- Contracts of Signed (the program's and the document's): every signed number. -/
import Derived.Test.YthgpdnbmilcgcaaNumW
namespace Go.Proofs.Ythgpdnbmilcgcaa
open Go.RowKit
set_option linter.unusedVariables false

theorem xor_u64_zero (x : Int) (h0 : 0 ≤ x) (h1 : x ≤ 18446744073709551615) : bits .xor .u64 x 0 = x := by
  obtain ⟨m, rfl⟩ := Int.eq_ofNat_of_zero_le h0
  have := bits_xor_u64_nat m 0 (by omega) (by omega)
  simpa using this
theorem xor_u64_ones (x : Int) (h0 : 0 ≤ x) (h1 : x ≤ 18446744073709551615) : bits .xor .u64 x 18446744073709551615 = 18446744073709551615 - x := by
  obtain ⟨m, rfl⟩ := Int.eq_ofNat_of_zero_le h0
  show IntKind.u64.wrap ((BitVec.ofInt 64 (m : Int) ^^^ BitVec.ofInt 64 18446744073709551615).toNat : Int) = _
  have h2 : (BitVec.ofInt 64 (m : Int)).toNat = m := by
    rw [BitVec.ofInt_natCast, BitVec.toNat_ofNat]; exact Nat.mod_eq_of_lt (by omega)
  rw [show BitVec.ofInt 64 18446744073709551615 = BitVec.allOnes 64 from by decide, BitVec.xor_allOnes, BitVec.toNat_not, h2, IntKind.wrap_u64]
  omega
theorem zig_neg (s : Int) (h0 : -9223372036854775808 ≤ s) (h : s < 0) : bits .xor .u64 (IntKind.u64.wrap (IntKind.u64.wrap s * 2)) (IntKind.u64.wrap (s / 9223372036854775808)) = zz s := by
  have e1 : IntKind.u64.wrap (s / 9223372036854775808) = 18446744073709551615 := by rw [IntKind.wrap_u64]; omega
  have e2 : IntKind.u64.wrap (IntKind.u64.wrap s * 2) = 18446744073709551616 + s * 2 := by rw [IntKind.wrap_u64, IntKind.wrap_u64]; omega
  rw [e1, e2, xor_u64_ones _ (by omega) (by omega)]
  unfold zz; rw [if_pos h]; omega
theorem zig_pos (s : Int) (h1 : s ≤ 9223372036854775807) (h : 0 ≤ s) : bits .xor .u64 (s * 2) (s / 9223372036854775808) = zz s := by
  have e1 : s / 9223372036854775808 = 0 := by omega
  rw [e1, xor_u64_zero _ (by omega) (by omega)]
  unfold zz; rw [if_neg (by omega)]

theorem rsigned_any (s : Int) (h0 : -9223372036854775808 ≤ s) (h1 : s ≤ 9223372036854775807) (w : World) :
    Calls Try.prog 11 #[.int .i64 s] w (NumPost w (zz s)) := by
  obtain ⟨z0, z1⟩ := zz_bd s h0 h1
  by_cases hs : s < 0
  · have E := Lib.hid (show -(s + 1) * 2 + 1 = zz s by unfold zz; rw [if_pos hs])
    go_enter Try.func11, Try.ntmps11
    go_wp2_with fail
    rw [E.out]
    refine (number_any (zz s) z0 z1 _).mono ?_
    rintro e w' ⟨g, cap, rfl, hown, hb⟩
    go_wp2
    go_ret
    exact ⟨g, cap, rfl, hown, hb⟩
  · have hs' : 0 ≤ s := by omega
    have E := Lib.hid (show s * 2 = zz s by unfold zz; rw [if_neg hs])
    go_enter Try.func11, Try.ntmps11
    go_wp2_with fail
    rw [E.out]
    refine (number_any (zz s) z0 z1 _).mono ?_
    rintro e w' ⟨g, cap, rfl, hown, hb⟩
    go_wp2
    go_ret
    exact ⟨g, cap, rfl, hown, hb⟩

theorem vsigned_any (a : Option Addr) (len cap : Nat) (zs : List Int) (s : Int) (h0 : -9223372036854775808 ≤ s) (h1 : s ≤ 9223372036854775807) (w : World) (h : IsB w a len zs) (ha : ∀ x, len ≠ 0 → a = some x → x.block < w.heap.size) (hlen : len ≤ 140737488355328) (hn : a = none → len = 0 ∧ cap = 0) :
    Calls Try.prog 15 #[.slice a len cap, .int .i64 s] w (AppPost w w.heap.size len zs (zz s) (groups (zz s))) := by
  obtain ⟨z0, z1⟩ := zz_bd s h0 h1
  have H := Lib.hid h
  have HA := Lib.hid ha
  have HN := Lib.hid hn
  clear h ha hn
  by_cases hs : s < 0
  · have E := Lib.hid (zig_neg s h0 hs)
    go_enter Try.func15, Try.ntmps15
    go_wp2_with fail
    rw [E.out]
    refine (append_any a len cap zs (zz s) z0 z1 w H.out HA.out hlen HN.out).mono ?_
    rintro e w' ⟨rfl, hown, hb⟩
    go_wp2
    go_ret
    exact ⟨rfl, hown, hb⟩
  · have hs' : 0 ≤ s := by omega
    have E := Lib.hid (zig_pos s h1 hs')
    go_enter Try.func15, Try.ntmps15
    go_wp2_with fail
    rw [E.out]
    refine (append_any a len cap zs (zz s) z0 z1 w H.out HA.out hlen HN.out).mono ?_
    rintro e w' ⟨rfl, hown, hb⟩
    go_wp2
    go_ret
    exact ⟨rfl, hown, hb⟩
end Go.Proofs.Ythgpdnbmilcgcaa
