/- Contracts of value's Order and Rows, of cmp.Compare and cmp.Or: every two values, every two slices of values. -/
import Derived.Test.YthgpdnbmilcgcabFormW
import Derived.StillTailTactics
import Derived.Deep.RegionHeld3
import Derived.LoopTactic
namespace Go.Proofs.Ythgpdnbmilcgcab
open Go.RowKit
set_option linter.unusedVariables false

theorem cmpI_any (a b : Int) (w : World) : Calls Try.prog 36 #[.int .i64 a, .int .i64 b] w fun e w' => e = .returned (.int .i64 (ordI a b)) ∧ w = w' := by
  by_cases h1 : a < b
  · rw [← oI_lt h1]
    go_enter Try.func36, Try.ntmps36
    go_wp2
    go_ret
    exact ⟨rfl, rfl⟩
  · by_cases h2 : b < a
    · rw [← oI_gt h2]
      go_enter Try.func36, Try.ntmps36
      go_wp2
      go_ret
      exact ⟨rfl, rfl⟩
    · rw [← oI_eq h1 h2]
      go_enter Try.func36, Try.ntmps36
      go_wp2
      go_ret
      exact ⟨rfl, rfl⟩

theorem cmpL_any (a b : Int) (w : World) : Calls Try.prog 53 #[.int .i64 a, .int .i64 b] w fun e w' => e = .returned (.int .i64 (ordI a b)) ∧ w = w' := by
  by_cases h1 : a < b
  · rw [← oI_lt h1]
    go_enter Try.func53, Try.ntmps53
    go_wp2
    go_ret
    exact ⟨rfl, rfl⟩
  · by_cases h2 : b < a
    · rw [← oI_gt h2]
      go_enter Try.func53, Try.ntmps53
      go_wp2
      go_ret
      exact ⟨rfl, rfl⟩
    · rw [← oI_eq h1 h2]
      go_enter Try.func53, Try.ntmps53
      go_wp2
      go_ret
      exact ⟨rfl, rfl⟩

theorem cmpS_any (a b : ByteArray) (w : World) : Calls Try.prog 54 #[.string a, .string b] w fun e w' => e = .returned (.int .i64 (ordS a b)) ∧ w = w' := by
  rcases Bool.eq_false_or_eq_true (Op.bytesLess a.toList b.toList) with h1 | h1
  · rw [← oS_lt h1]
    go_enter Try.func54, Try.ntmps54
    go_wp2
    go_ret
    exact ⟨rfl, rfl⟩
  · rcases Bool.eq_false_or_eq_true (a.toList == b.toList) with h2 | h2
    · rw [← oS_eq h1 h2]
      go_enter Try.func54, Try.ntmps54
      go_wp2
      go_ret
      exact ⟨rfl, rfl⟩
    · rw [← oS_gt h1 h2]
      go_enter Try.func54, Try.ntmps54
      go_wp2
      go_ret
      exact ⟨rfl, rfl⟩

def or3 (x y z : Int) : Int := if x = 0 then (if y = 0 then z else y) else x

set_option maxHeartbeats 1000000 in
theorem or3_any (x y z : Int) (b c : Nat) (w : World) (h0 : w.cell? ⟨b, 0, none⟩ = some (.int .i64 x)) (h1 : w.cell? ⟨b, 1, none⟩ = some (.int .i64 y)) (h2 : w.cell? ⟨b, 2, none⟩ = some (.int .i64 z)) :
    Calls Try.prog 52 #[.slice (some ⟨b, 0, none⟩) 3 c] w fun e w' => e = .returned (.int .i64 (or3 x y z)) ∧ w = w' := by
  by_cases hx : x = 0
  · by_cases hy : y = 0
    · by_cases hz : z = 0
      · have hn : or3 x y z = 0 := by simp [or3, hx, hy, hz]
        rw [hn]; clear hn
        subst hx hy hz
        go_enter Try.func52, Try.ntmps52
        go_wp2
        go_loop [8] (fun i => i = .int .i64 0 ∨ i = .int .i64 1 ∨ i = .int .i64 2 ∨ i = .int .i64 3) (fun i => 3 - (intOf i).toNat)
        case atStart => exact .inl rfl
        case round =>
          rcases hrel with rfl | rfl | rfl | rfl
          · go_wp2
            go_round
            case rel => exact .inr (.inl rfl)
            case measure => decide
          · go_wp2
            go_round
            case rel => exact .inr (.inr (.inl rfl))
            case measure => decide
          · go_wp2
            go_round
            case rel => exact .inr (.inr (.inr rfl))
            case measure => decide
          · go_wp2
            go_ret
            exact ⟨rfl, rfl⟩
      · have hn : or3 x y z = z := by simp [or3, hx, hy]
        rw [hn]; clear hn
        have ez : (z != 0) = true := by simpa using hz
        subst hx hy
        go_enter Try.func52, Try.ntmps52
        go_wp2
        go_loop [8] (fun i => i = .int .i64 0 ∨ i = .int .i64 1 ∨ i = .int .i64 2) (fun i => 3 - (intOf i).toNat)
        case atStart => exact .inl rfl
        case round =>
          rcases hrel with rfl | rfl | rfl
          · go_wp2
            go_round
            case rel => exact .inr (.inl rfl)
            case measure => decide
          · go_wp2
            go_round
            case rel => exact .inr (.inr rfl)
            case measure => decide
          · go_wp2
            go_ret
            exact ⟨rfl, rfl⟩
    · have hn : or3 x y z = y := by simp [or3, hx, hy]
      rw [hn]; clear hn
      have ez : (y != 0) = true := by simpa using hy
      subst hx
      go_enter Try.func52, Try.ntmps52
      go_wp2
      go_loop [8] (fun i => i = .int .i64 0 ∨ i = .int .i64 1) (fun i => 3 - (intOf i).toNat)
      case atStart => exact .inl rfl
      case round =>
        rcases hrel with rfl | rfl
        · go_wp2
          go_round
          case rel => exact .inr rfl
          case measure => decide
        · go_wp2
          go_ret
          exact ⟨rfl, rfl⟩
  · have hn : or3 x y z = x := by simp [or3, hx]
    rw [hn]; clear hn
    have ez : (x != 0) = true := by simpa using hx
    go_enter Try.func52, Try.ntmps52
    go_wp2
    go_loop [8] (fun i => i = .int .i64 0) (fun i => 3 - (intOf i).toNat)
    case atStart => rfl
    case round =>
      subst hrel
      go_wp2
      go_ret
      exact ⟨rfl, rfl⟩

theorem or3_ord (ka na : Int) (sa : ByteArray) (kb nb : Int) (sb : ByteArray) : or3 (ordI ka kb) (ordI na nb) (ordS sa sb) = ordV ka na sa kb nb sb := rfl

set_option maxHeartbeats 1000000 in
theorem order_any (ka na : Int) (sa : ByteArray) (kb nb : Int) (sb : ByteArray) (w : World) :
    Calls Try.prog 35 #[.agg #[.int .i64 ka, .int .i64 na, .string sa], .agg #[.int .i64 kb, .int .i64 nb, .string sb]] w fun e w' => e = .returned (.int .i64 (ordV ka na sa kb nb sb)) ∧ (((w.alloc (.cells #[.int .i64 ka, .int .i64 na, .string sa] 54)).alloc (.cells #[.int .i64 kb, .int .i64 nb, .string sb] 54)).alloc (.cells #[.int .i64 (ordI ka kb), .int .i64 (ordI na nb), .int .i64 (ordS sa sb)] 3)).drew = w' := by
  go_enter Try.func35, Try.ntmps35
  go_wp2
  go_region_held3 (fun w' => w'.cell? ⟨w.heap.size, 0, none⟩ = some (.int .i64 ka) ∧ w'.cell? ⟨w.heap.size, 1, none⟩ = some (.int .i64 na) ∧ w'.cell? ⟨w.heap.size, 2, none⟩ = some (.string sa) ∧ w'.cell? ⟨w.heap.size + 1, 0, none⟩ = some (.int .i64 kb) ∧ w'.cell? ⟨w.heap.size + 1, 1, none⟩ = some (.int .i64 nb) ∧ w'.cell? ⟨w.heap.size + 1, 2, none⟩ = some (.string sb)) (go_keep)
    (first | (go_at_call 36; refine (cmpI_any _ _ _).mono ?_; rintro e w' ⟨rfl, rfl⟩) | (go_at_call 53; refine (cmpL_any _ _ _).mono ?_; rintro e w' ⟨rfl, rfl⟩) | (go_at_call 54; refine (cmpS_any _ _ _).mono ?_; rintro e w' ⟨rfl, rfl⟩) | (go_at_call 52; refine (or3_any (ordI ka kb) (ordI na nb) (ordS sa sb) _ _ _ (by simp [go_sem]) (by simp [go_sem]) (by simp [go_sem])).mono ?_; rintro e w' ⟨rfl, rfl⟩))
  all_goals go_wp2
  go_ret
  exact ⟨ret_int rfl, rfl⟩

set_option maxHeartbeats 2000000 in
theorem vrows_short (a1 : Option Addr) (len1 cap1 : Nat) (v1 : List Val) (a2 : Option Addr) (len2 cap2 : Nat) (v2 : List Val) (w : World) (h1 : IsV w a1 len1 v1) (h2 : IsV w a2 len2 v2) (hle : len1 ≤ len2) :
    Calls Try.prog 15 #[.slice a1 len1 cap1, .slice a2 len2 cap2] w fun e w' => e = .returned (.int .i64 (rowsF v1 v2)) ∧ Below w.heap.size w w' := by
  have H1 := Lib.hid h1
  have H2 := Lib.hid h2
  obtain ⟨hl1, hm1, _⟩ := h1
  obtain ⟨hl2, hm2, _⟩ := h2
  have HL1 := Lib.hid hl1
  have HL2 := Lib.hid hl2
  have hle' : (len1 : Int) ≤ (len2 : Int) := by omega
  clear hl1 hl2
  go_enter Try.func15, Try.ntmps15
  go_wp2
  go_loopw [12] (fun i wr => ∃ k : Nat, (k ≤ len1 ∧ k ≤ len2) ∧ i = .int .i64 k ∧ Below w.heap.size w wr ∧ Hid (rowsF (v1.drop k) (v2.drop k) = rowsF v1 v2)) (fun i _ => len1 - (intOf i).toNat)
  case atStart => exact ⟨0, by omega, rfl, Below.refl _ _, Lib.hid rfl⟩
  case round =>
    obtain ⟨k, ⟨hk, hk'⟩, rfl, hb, HK⟩ := hrel
    have HB := Lib.hid hb
    clear hb
    by_cases hlt : k < len1 ∧ k < len2
    · obtain ⟨hlt, hlt2⟩ := hlt
      obtain ⟨_, _, hc1⟩ := H1.out.below HB.out
      obtain ⟨_, _, hc2⟩ := H2.out.below HB.out
      rcases hc1 with hz | ⟨b1, off1, rfl, hb1, hc1⟩
      · omega
      rcases hc2 with hz | ⟨b2, off2, rfl, hb2, hc2⟩
      · omega
      obtain ⟨p1, p2, p3⟩ := hc1 k hlt
      obtain ⟨q1, q2, q3⟩ := hc2 k hlt2
      clear hc1 hc2
      have hk0 : (0 : Int) ≤ (k : Int) := by omega
      have hki : (k : Int) < (len2 : Int) := by omega
      have hkj : (k : Int) < (len1 : Int) := by omega
      have hk1 : k < v1.length := by have := HL1.out; omega
      have hk2 : k < v2.length := by have := HL2.out; omega
      by_cases ho : ordX (v1.getD k noV) (v2.getD k noV) = 0
      · have HE := Lib.hid ((rows_eq hk1 hk2 ho).symm.trans HK.out)
        clear HK hk1 hk2
        unfold ordX at ho
        generalize v1.getD k noV = x at *
        generalize v2.getD k noV = y at *
        obtain ⟨xk, xn, xs⟩ := x
        obtain ⟨yk, yn, ys⟩ := y
        dsimp only at *
        have eo : (ordV xk xn xs yk yn ys != 0) = false := by rw [bne_eq_false_iff_eq]; exact ho
        clear ho
        go_wp2
        go_region_held3 (fun w' => w'.cell? ⟨b1, off1 + k * 3, none⟩ = some (.int .i64 xk) ∧ w'.cell? ⟨b1, off1 + k * 3 + 1, none⟩ = some (.int .i64 xn) ∧ w'.cell? ⟨b1, off1 + k * 3 + 2, none⟩ = some (.string xs) ∧ w'.cell? ⟨b2, off2 + k * 3, none⟩ = some (.int .i64 yk) ∧ w'.cell? ⟨b2, off2 + k * 3 + 1, none⟩ = some (.int .i64 yn) ∧ w'.cell? ⟨b2, off2 + k * 3 + 2, none⟩ = some (.string ys)) (first | exact ⟨p1, p2, p3, q1, q2, q3⟩ | exact keep6 (by repeat (first | exact Below.refl _ _ | refine Below.drew ?_ | refine bel _ ?_)) p1 p2 p3 q1 q2 q3)
          (first | (go_at_call 35; refine (order_any _ _ _ _ _ _ _).mono ?_; rintro e w' ⟨rfl, rfl⟩))
        go_wp2
        go_roundw
        case rel =>
          refine ⟨k + 1, by omega, by go_num, ?_, HE⟩
          have := HB.out
          repeat (first | exact this | refine Below.drew ?_ | refine bel _ ?_)
        case measure => simp [intOf]; omega
      · have HE := Lib.hid ((rows_ne hk1 hk2 ho).symm.trans HK.out)
        clear HK hk1 hk2
        unfold ordX at ho HE
        generalize v1.getD k noV = x at *
        generalize v2.getD k noV = y at *
        obtain ⟨xk, xn, xs⟩ := x
        obtain ⟨yk, yn, ys⟩ := y
        dsimp only at *
        have eo : (ordV xk xn xs yk yn ys != 0) = true := by rw [bne_iff_ne]; exact ho
        clear ho
        go_wp2
        go_region_held3 (fun w' => w'.cell? ⟨b1, off1 + k * 3, none⟩ = some (.int .i64 xk) ∧ w'.cell? ⟨b1, off1 + k * 3 + 1, none⟩ = some (.int .i64 xn) ∧ w'.cell? ⟨b1, off1 + k * 3 + 2, none⟩ = some (.string xs) ∧ w'.cell? ⟨b2, off2 + k * 3, none⟩ = some (.int .i64 yk) ∧ w'.cell? ⟨b2, off2 + k * 3 + 1, none⟩ = some (.int .i64 yn) ∧ w'.cell? ⟨b2, off2 + k * 3 + 2, none⟩ = some (.string ys)) (first | exact ⟨p1, p2, p3, q1, q2, q3⟩ | exact keep6 (by repeat (first | exact Below.refl _ _ | refine Below.drew ?_ | refine bel _ ?_)) p1 p2 p3 q1 q2 q3)
          (first | (go_at_call 35; refine (order_any _ _ _ _ _ _ _).mono ?_; rintro e w' ⟨rfl, rfl⟩))
        go_wp2
        go_ret
        refine ⟨ret_int HE.out, ?_⟩
        have := HB.out
        repeat (first | exact this | refine Below.drew ?_ | refine bel _ ?_)
    · obtain rfl : k = len1 := by omega
      by_cases he : k = len2
      · subst he
        have HE := Lib.hid ((rows_both (by have := HL1.out; omega) (by have := HL2.out; omega)).symm.trans HK.out)
        clear HK hlt
        go_wp2_with (go_at_call 36; refine (cmpI_any _ _ _).mono ?_; rintro e w' ⟨rfl, rfl⟩)
        go_ret
        exact ⟨ret_int (by rw [← HE.out, oI_self]), HB.out⟩
      · have HE := Lib.hid ((rows_left (by have := HL1.out; omega) (by have := HL2.out; omega)).symm.trans HK.out)
        clear HK hlt
        go_wp2_with (go_at_call 36; refine (cmpI_any _ _ _).mono ?_; rintro e w' ⟨rfl, rfl⟩)
        go_ret
        exact ⟨ret_int (by rw [← HE.out, ← oI_lt (by omega)]), HB.out⟩

set_option maxHeartbeats 2000000 in
theorem vrows_long (a1 : Option Addr) (len1 cap1 : Nat) (v1 : List Val) (a2 : Option Addr) (len2 cap2 : Nat) (v2 : List Val) (w : World) (h1 : IsV w a1 len1 v1) (h2 : IsV w a2 len2 v2) (hle : len2 < len1) :
    Calls Try.prog 15 #[.slice a1 len1 cap1, .slice a2 len2 cap2] w fun e w' => e = .returned (.int .i64 (rowsF v1 v2)) ∧ Below w.heap.size w w' := by
  have H1 := Lib.hid h1
  have H2 := Lib.hid h2
  obtain ⟨hl1, hm1, _⟩ := h1
  obtain ⟨hl2, hm2, _⟩ := h2
  have HL1 := Lib.hid hl1
  have HL2 := Lib.hid hl2
  have hle' : (len2 : Int) < (len1 : Int) := by omega
  clear hl1 hl2
  go_enter Try.func15, Try.ntmps15
  go_wp2
  go_loopw [12] (fun i wr => ∃ k : Nat, (k ≤ len1 ∧ k ≤ len2) ∧ i = .int .i64 k ∧ Below w.heap.size w wr ∧ Hid (rowsF (v1.drop k) (v2.drop k) = rowsF v1 v2)) (fun i _ => len2 - (intOf i).toNat)
  case atStart => exact ⟨0, by omega, rfl, Below.refl _ _, Lib.hid rfl⟩
  case round =>
    obtain ⟨k, ⟨hk, hk'⟩, rfl, hb, HK⟩ := hrel
    have HB := Lib.hid hb
    clear hb
    by_cases hlt : k < len1 ∧ k < len2
    · obtain ⟨hlt, hlt2⟩ := hlt
      obtain ⟨_, _, hc1⟩ := H1.out.below HB.out
      obtain ⟨_, _, hc2⟩ := H2.out.below HB.out
      rcases hc1 with hz | ⟨b1, off1, rfl, hb1, hc1⟩
      · omega
      rcases hc2 with hz | ⟨b2, off2, rfl, hb2, hc2⟩
      · omega
      obtain ⟨p1, p2, p3⟩ := hc1 k hlt
      obtain ⟨q1, q2, q3⟩ := hc2 k hlt2
      clear hc1 hc2
      have hk0 : (0 : Int) ≤ (k : Int) := by omega
      have hki : (k : Int) < (len2 : Int) := by omega
      have hkj : (k : Int) < (len1 : Int) := by omega
      have hk1 : k < v1.length := by have := HL1.out; omega
      have hk2 : k < v2.length := by have := HL2.out; omega
      by_cases ho : ordX (v1.getD k noV) (v2.getD k noV) = 0
      · have HE := Lib.hid ((rows_eq hk1 hk2 ho).symm.trans HK.out)
        clear HK hk1 hk2
        unfold ordX at ho
        generalize v1.getD k noV = x at *
        generalize v2.getD k noV = y at *
        obtain ⟨xk, xn, xs⟩ := x
        obtain ⟨yk, yn, ys⟩ := y
        dsimp only at *
        have eo : (ordV xk xn xs yk yn ys != 0) = false := by rw [bne_eq_false_iff_eq]; exact ho
        clear ho
        go_wp2
        go_region_held3 (fun w' => w'.cell? ⟨b1, off1 + k * 3, none⟩ = some (.int .i64 xk) ∧ w'.cell? ⟨b1, off1 + k * 3 + 1, none⟩ = some (.int .i64 xn) ∧ w'.cell? ⟨b1, off1 + k * 3 + 2, none⟩ = some (.string xs) ∧ w'.cell? ⟨b2, off2 + k * 3, none⟩ = some (.int .i64 yk) ∧ w'.cell? ⟨b2, off2 + k * 3 + 1, none⟩ = some (.int .i64 yn) ∧ w'.cell? ⟨b2, off2 + k * 3 + 2, none⟩ = some (.string ys)) (first | exact ⟨p1, p2, p3, q1, q2, q3⟩ | exact keep6 (by repeat (first | exact Below.refl _ _ | refine Below.drew ?_ | refine bel _ ?_)) p1 p2 p3 q1 q2 q3)
          (first | (go_at_call 35; refine (order_any _ _ _ _ _ _ _).mono ?_; rintro e w' ⟨rfl, rfl⟩))
        go_wp2
        go_roundw
        case rel =>
          refine ⟨k + 1, by omega, by go_num, ?_, HE⟩
          have := HB.out
          repeat (first | exact this | refine Below.drew ?_ | refine bel _ ?_)
        case measure => simp [intOf]; omega
      · have HE := Lib.hid ((rows_ne hk1 hk2 ho).symm.trans HK.out)
        clear HK hk1 hk2
        unfold ordX at ho HE
        generalize v1.getD k noV = x at *
        generalize v2.getD k noV = y at *
        obtain ⟨xk, xn, xs⟩ := x
        obtain ⟨yk, yn, ys⟩ := y
        dsimp only at *
        have eo : (ordV xk xn xs yk yn ys != 0) = true := by rw [bne_iff_ne]; exact ho
        clear ho
        go_wp2
        go_region_held3 (fun w' => w'.cell? ⟨b1, off1 + k * 3, none⟩ = some (.int .i64 xk) ∧ w'.cell? ⟨b1, off1 + k * 3 + 1, none⟩ = some (.int .i64 xn) ∧ w'.cell? ⟨b1, off1 + k * 3 + 2, none⟩ = some (.string xs) ∧ w'.cell? ⟨b2, off2 + k * 3, none⟩ = some (.int .i64 yk) ∧ w'.cell? ⟨b2, off2 + k * 3 + 1, none⟩ = some (.int .i64 yn) ∧ w'.cell? ⟨b2, off2 + k * 3 + 2, none⟩ = some (.string ys)) (first | exact ⟨p1, p2, p3, q1, q2, q3⟩ | exact keep6 (by repeat (first | exact Below.refl _ _ | refine Below.drew ?_ | refine bel _ ?_)) p1 p2 p3 q1 q2 q3)
          (first | (go_at_call 35; refine (order_any _ _ _ _ _ _ _).mono ?_; rintro e w' ⟨rfl, rfl⟩))
        go_wp2
        go_ret
        refine ⟨ret_int HE.out, ?_⟩
        have := HB.out
        repeat (first | exact this | refine Below.drew ?_ | refine bel _ ?_)
    · obtain rfl : k = len2 := by omega
      have HE := Lib.hid ((rows_right (by have := HL1.out; omega) (by have := HL2.out; omega)).symm.trans HK.out)
      clear HK hlt
      go_wp2_with (go_at_call 36; refine (cmpI_any _ _ _).mono ?_; rintro e w' ⟨rfl, rfl⟩)
      go_ret
      exact ⟨ret_int (by rw [← HE.out, ← oI_gt (by omega)]), HB.out⟩

theorem vrows_any (a1 : Option Addr) (len1 cap1 : Nat) (v1 : List Val) (a2 : Option Addr) (len2 cap2 : Nat) (v2 : List Val) (w : World) (h1 : IsV w a1 len1 v1) (h2 : IsV w a2 len2 v2) :
    Calls Try.prog 15 #[.slice a1 len1 cap1, .slice a2 len2 cap2] w fun e w' => e = .returned (.int .i64 (rowsF v1 v2)) ∧ Below w.heap.size w w' := by
  by_cases h : len1 ≤ len2
  · exact vrows_short _ _ _ _ _ _ _ _ _ h1 h2 h
  · exact vrows_long _ _ _ _ _ _ _ _ _ h1 h2 (by omega)

end Go.Proofs.Ythgpdnbmilcgcab
