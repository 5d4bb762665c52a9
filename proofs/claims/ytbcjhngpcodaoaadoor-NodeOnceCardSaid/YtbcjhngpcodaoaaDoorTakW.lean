/- Contracts of Take (the program's and the document's): every slice of bytes. -/
import Derived.Test.YtbcjhngpcodaoaaDoorProg
import Derived.Test.YtbcjhngpcodaoaaDoorTakPure
import Derived.Test.YtbcjhngpcodaoaaDoorBytes
import Derived.WalkKit
import Derived.WalkLawsBesides
import Derived.WalkSpells
import Derived.Outline
import Derived.BigQuiet
import Derived.Deep.QuietTactic
import Derived.LoopTactic
import Derived.Lib.Hide
namespace Go.Proofs.YtbcjhngpcodaoaaDoor
open Go.RowKit
set_option linter.unusedVariables false

theorem n57_f {N : Int} (h0 : 0 ≤ N) (h : N < 144115188075855872) : (N / 144115188075855872 != 0) = false := by
  rw [bne_eq_false_iff_eq]; omega
theorem n57_t {N : Int} (h : ¬ N < 144115188075855872) : (N / 144115188075855872 != 0) = true := by
  rw [bne_iff_ne]; omega

set_option maxHeartbeats 800000 in
theorem take_any (a : Option Addr) (len cap : Nat) (zs : List Int) (w : World) (h : IsB w a len zs) :
    Calls Tryd.prog 54 #[.slice a len cap] w fun e w' => e = endT (takeR zs) ∧ w = w' := by
  obtain ⟨hl, hm, hc, hbd⟩ := h
  rcases hc with h0 | ⟨b, off, rfl, hc⟩
  · subst h0
    have hz : zs = [] := List.eq_nil_of_length_eq_zero hl
    subst hz
    clear hl hbd hm
    rw [show endT (takeR []) = .returned (.tuple #[.int .u64 0, .int .i64 0, .int .i64 2]) from rfl]
    go_enter Tryd.func54, Tryd.ntmps54
    go_wp2
    go_loop [19] (fun i => i = .int .i64 0) (fun _ => 0)
    case atStart => rfl
    case round =>
      subst hrel
      go_wp2
      go_ret3
      exact ⟨rfl, rfl⟩
  by_cases h0 : len = 0
  · subst h0
    have hz : zs = [] := List.eq_nil_of_length_eq_zero hl
    subst hz
    clear hl hbd hm hc
    rw [show endT (takeR []) = .returned (.tuple #[.int .u64 0, .int .i64 0, .int .i64 2]) from rfl]
    go_enter Tryd.func54, Tryd.ntmps54
    go_wp2
    go_loop [19] (fun i => i = .int .i64 0) (fun _ => 0)
    case atStart => rfl
    case round =>
      subst hrel
      go_wp2
      go_ret3
      exact ⟨rfl, rfl⟩
  have hp : (0 : Int) < (len : Int) := by omega
  have hc0 := hc 0 (by omega)
  rw [Nat.add_zero] at hc0
  obtain ⟨hx0, hx1⟩ := hbd 0
  generalize hX : zs.getD 0 0 = x at hc0 hx0 hx1
  by_cases h128 : x = 128
  · have HE := Lib.hid (show takeR zs = (0, 0, 2) by unfold takeR; rw [hX, if_pos h128])
    subst h128
    rw [HE.out]
    clear hX HE hc hl hbd hx0 hx1
    rw [show endT (0, 0, 2) = .returned (.tuple #[.int .u64 0, .int .i64 0, .int .i64 2]) from rfl]
    go_enter Tryd.func54, Tryd.ntmps54
    go_wp2
    go_ret3
    exact ⟨rfl, rfl⟩
  have e128 : (x == 128) = false := beq_eq_false_iff_ne.2 h128
  have HT := Lib.hid (show takeR zs = tk 0 0 zs by unfold takeR; rw [hX, if_neg h128])
  clear h128
  have HX := Lib.hid hX
  clear hX
  have HL := Lib.hid hl
  clear hl
  by_cases hten : (10 : Int) < (len : Int)
  · go_enter Tryd.func54, Tryd.ntmps54
    go_wp2
    go_loop [5, 19] (fun n i => ∃ k : Nat, ∃ N : Int, k ≤ 10 ∧ i = .int .i64 k ∧ n = .int .u64 N ∧ (0 ≤ N ∧ N ≤ 18446744073709551615) ∧ Hid (tk k N (zs.drop k) = takeR zs)) (fun _ i => 10 - (intOf i).toNat)
    case atStart => exact ⟨0, 0, by omega, rfl, rfl, by omega, Lib.hid (by rw [HT.out]; rfl)⟩
    case round =>
      obtain ⟨k, N, hk, rfl, rfl, ⟨hN0, hN1⟩, HK⟩ := hrel
      by_cases hlt : k < 10
      · have hck := hc k (by omega)
        obtain ⟨hb0, hb1⟩ := hbd k
        clear hc hbd
        by_cases hN : N < 144115188075855872
        · have e57 := n57_f hN0 hN
          by_cases hy : zs.getD k 0 < 128
          · have HE := Lib.hid (HK.out.symm.trans (tk_end (by have := HL.out; omega) hlt hN hy))
            clear HK HT
            generalize zs.getD k 0 = y at *
            go_wp2
            go_ret3
            refine ⟨?_, rfl⟩
            rw [HE.out]
            rfl
          · have HE := Lib.hid ((tk_on (by have := HL.out; omega) hlt hN hy).symm.trans HK.out)
            have hS := stepN_eq N (zs.getD k 0) hN0 hN hb0 hb1
            have hS2 : 0 ≤ stepN N (zs.getD k 0) ∧ stepN N (zs.getD k 0) ≤ 18446744073709551615 := by omega
            have HS2 := Lib.hid hS2
            clear HK HT hS hS2
            generalize zs.getD k 0 = y at *
            go_wp2
            go_round
            case rel => exact ⟨k + 1, stepN N y, by omega, by go_num, rfl, HS2.out, HE⟩
            case measure => simp [intOf]; omega
        · have e57 := n57_t hN
          have HE := Lib.hid (HK.out.symm.trans (tk_none (.inr (.inl (by omega)))))
          clear HK HT hck
          go_wp2
          go_ret3
          refine ⟨?_, rfl⟩
          rw [HE.out]
          rfl
      · have HE := Lib.hid (HK.out.symm.trans (tk_none (.inl (by omega))))
        obtain rfl : k = 10 := by omega
        clear HK HT hc hbd
        go_wp2
        go_ret3
        refine ⟨?_, rfl⟩
        rw [HE.out]
        rfl
  · go_enter Tryd.func54, Tryd.ntmps54
    go_wp2
    go_loop [5, 19] (fun n i => ∃ k : Nat, ∃ N : Int, k ≤ len ∧ i = .int .i64 k ∧ n = .int .u64 N ∧ (0 ≤ N ∧ N ≤ 18446744073709551615) ∧ Hid (tk k N (zs.drop k) = takeR zs)) (fun _ i => len - (intOf i).toNat)
    case atStart => exact ⟨0, 0, by omega, rfl, rfl, by omega, Lib.hid (by rw [HT.out]; rfl)⟩
    case round =>
      obtain ⟨k, N, hk, rfl, rfl, ⟨hN0, hN1⟩, HK⟩ := hrel
      by_cases hlt : k < len
      · have hck := hc k (by omega)
        obtain ⟨hb0, hb1⟩ := hbd k
        clear hc hbd
        by_cases hN : N < 144115188075855872
        · have e57 := n57_f hN0 hN
          by_cases hy : zs.getD k 0 < 128
          · have HE := Lib.hid (HK.out.symm.trans (tk_end (by have := HL.out; omega) (by omega) hN hy))
            clear HK HT
            generalize zs.getD k 0 = y at *
            go_wp2
            go_ret3
            refine ⟨?_, rfl⟩
            rw [HE.out]
            rfl
          · have HE := Lib.hid ((tk_on (by have := HL.out; omega) (by omega) hN hy).symm.trans HK.out)
            have hS := stepN_eq N (zs.getD k 0) hN0 hN hb0 hb1
            have hS2 : 0 ≤ stepN N (zs.getD k 0) ∧ stepN N (zs.getD k 0) ≤ 18446744073709551615 := by omega
            have HS2 := Lib.hid hS2
            clear HK HT hS hS2
            generalize zs.getD k 0 = y at *
            go_wp2
            go_round
            case rel => exact ⟨k + 1, stepN N y, by omega, by go_num, rfl, HS2.out, HE⟩
            case measure => simp [intOf]; omega
        · have e57 := n57_t hN
          have HE := Lib.hid (HK.out.symm.trans (tk_none (.inr (.inl (by omega)))))
          clear HK HT hck
          go_wp2
          go_ret3
          refine ⟨?_, rfl⟩
          rw [HE.out]
          rfl
      · have HE := Lib.hid (HK.out.symm.trans (tk_none (.inr (.inr (List.drop_eq_nil_of_le (by have := HL.out; omega))))))
        obtain rfl : k = len := by omega
        clear HK HT hc hbd
        go_wp2
        go_ret3
        refine ⟨?_, rfl⟩
        rw [HE.out]
        rfl
end Go.Proofs.YtbcjhngpcodaoaaDoor
