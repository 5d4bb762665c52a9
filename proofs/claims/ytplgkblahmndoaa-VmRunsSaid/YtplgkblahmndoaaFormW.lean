/- Contracts of Formed (the program's and the document's), of the document's ints and texts, Order, Rows: by walks; no conditions. -/
import Derived.Test.YtplgkblahmndoaaForm1
import Derived.Test.YtplgkblahmndoaaValPure
import Derived.Test.YtplgkblahmndoaaBase
import Derived.WalkKit
import Derived.WalkLawsBesides
import Derived.WalkSpells
import Derived.Outline
import Derived.BigQuiet
import Derived.Deep.QuietTactic
import Derived.Deep.RegionHeld3
import Derived.LoopTactic
import Derived.Lib.Hide
namespace Go.Proofs.Ytplgkblahmndoaa
open Go.RowKit
set_option linter.unusedVariables false

theorem oI_lt {a b : Int} (h : a < b) : (-1 : Int) = ordI a b := by unfold ordI; rw [if_pos h]
theorem oI_gt {a b : Int} (h : b < a) : (1 : Int) = ordI a b := by unfold ordI; rw [if_neg (by omega), if_pos h]
theorem oI_eq {a b : Int} (h1 : ¬ a < b) (h : ¬ b < a) : (0 : Int) = ordI a b := by unfold ordI; rw [if_neg h1, if_neg h]

theorem ints_any (a b : Int) (w : World) : Calls Try.prog 183 #[.int .i64 a, .int .i64 b] w fun e w' => e = .returned (.int .i64 (ordI a b)) ∧ w = w' := by
  by_cases h1 : a < b
  · rw [← oI_lt h1]
    go_enter Try.func183, Try.ntmps183
    go_wp2
    go_ret
    exact ⟨rfl, rfl⟩
  · by_cases h2 : b < a
    · rw [← oI_gt h2]
      go_enter Try.func183, Try.ntmps183
      go_wp2
      go_ret
      exact ⟨rfl, rfl⟩
    · rw [← oI_eq h1 h2]
      go_enter Try.func183, Try.ntmps183
      go_wp2
      go_ret
      exact ⟨rfl, rfl⟩

theorem oS_lt {a b : ByteArray} (h : Op.bytesLess a.toList b.toList = true) : (-1 : Int) = ordS a b := by unfold ordS; rw [if_pos h]
theorem oS_eq {a b : ByteArray} (h : Op.bytesLess a.toList b.toList = false) (h2 : (a.toList == b.toList) = true) : (0 : Int) = ordS a b := by
  unfold ordS; rw [if_neg (by rw [h]; exact Bool.false_ne_true), if_pos (eq_of_beq h2)]
theorem oS_gt {a b : ByteArray} (h : Op.bytesLess a.toList b.toList = false) (h2 : (a.toList == b.toList) = false) : (1 : Int) = ordS a b := by
  unfold ordS; rw [if_neg (by rw [h]; exact Bool.false_ne_true), if_neg (beq_eq_false_iff_ne.1 h2)]

theorem texts_any (a b : ByteArray) (w : World) : Calls Try.prog 184 #[.string a, .string b] w fun e w' => e = .returned (.int .i64 (ordS a b)) ∧ w = w' := by
  rcases Bool.eq_false_or_eq_true (Op.bytesLess a.toList b.toList) with h1 | h1
  · rw [← oS_lt h1]
    go_enter Try.func184, Try.ntmps184
    go_wp2
    go_ret
    exact ⟨rfl, rfl⟩
  · rcases Bool.eq_false_or_eq_true (a.toList == b.toList) with h2 | h2
    · rw [← oS_eq h1 h2]
      go_enter Try.func184, Try.ntmps184
      go_wp2
      go_ret
      exact ⟨rfl, rfl⟩
    · rw [← oS_gt h1 h2]
      go_enter Try.func184, Try.ntmps184
      go_wp2
      go_ret
      exact ⟨rfl, rfl⟩
theorem rorder_any (ka na : Int) (sa : ByteArray) (kb nb : Int) (sb : ByteArray) (w : World) :
    Calls Try.prog 149 #[.agg #[.int .i64 ka, .int .i64 na, .string sa], .agg #[.int .i64 kb, .int .i64 nb, .string sb]] w fun e w' => e = .returned (.int .i64 (ordV ka na sa kb nb sb)) ∧ ((w.alloc (.cells #[.int .i64 ka, .int .i64 na, .string sa] 46)).alloc (.cells #[.int .i64 kb, .int .i64 nb, .string sb] 46)) = w' := by
  by_cases hk : ka = kb
  · subst hk
    by_cases hn : na = nb
    · subst hn
      rw [← oV_s]
      go_enter Try.func149, Try.ntmps149
      go_wp2_with (go_at_call 184; refine (texts_any _ _ _).mono ?_; rintro e w' ⟨rfl, rfl⟩)
      go_ret
      exact ⟨rfl, rfl⟩
    · have e1 : (na != nb) = true := bne_iff_ne.2 hn
      rw [← oV_n e1]
      go_enter Try.func149, Try.ntmps149
      go_wp2_with (go_at_call 183; refine (ints_any _ _ _).mono ?_; rintro e w' ⟨rfl, rfl⟩)
      go_ret
      exact ⟨rfl, rfl⟩
  · have e1 : (ka != kb) = true := bne_iff_ne.2 hk
    rw [← oV_k e1]
    go_enter Try.func149, Try.ntmps149
    go_wp2_with (go_at_call 183; refine (ints_any _ _ _).mono ?_; rintro e w' ⟨rfl, rfl⟩)
    go_ret
    exact ⟨rfl, rfl⟩
theorem keep6 {w w' : World} {a1 a2 a3 a4 a5 a6 : Addr} {x1 x2 x3 x4 x5 x6 : Value} (hb : Below w.heap.size w w') (p1 : w.cell? a1 = some x1) (p2 : w.cell? a2 = some x2) (p3 : w.cell? a3 = some x3) (p4 : w.cell? a4 = some x4) (p5 : w.cell? a5 = some x5) (p6 : w.cell? a6 = some x6) :
    w'.cell? a1 = some x1 ∧ w'.cell? a2 = some x2 ∧ w'.cell? a3 = some x3 ∧ w'.cell? a4 = some x4 ∧ w'.cell? a5 = some x5 ∧ w'.cell? a6 = some x6 :=
  ⟨cell_later hb p1, cell_later hb p2, cell_later hb p3, cell_later hb p4, cell_later hb p5, cell_later hb p6⟩

set_option maxHeartbeats 2000000 in
theorem rrows_any (a1 : Option Addr) (len1 cap1 : Nat) (v1 : List Val) (a2 : Option Addr) (len2 cap2 : Nat) (v2 : List Val) (w : World) (h1 : IsV w a1 len1 v1) (h2 : IsV w a2 len2 v2) :
    Calls Try.prog 117 #[.slice a1 len1 cap1, .slice a2 len2 cap2] w fun e w' => e = .returned (.int .i64 (rowsF v1 v2)) ∧ Below w.heap.size w w' := by
  have H1 := Lib.hid h1
  have H2 := Lib.hid h2
  obtain ⟨hl1, hm1, _⟩ := h1
  obtain ⟨hl2, hm2, _⟩ := h2
  have HL1 := Lib.hid hl1
  have HL2 := Lib.hid hl2
  clear hl1 hl2
  go_enter Try.func117, Try.ntmps117
  go_wp2
  go_loopw [9] (fun i wr => ∃ k : Nat, (k ≤ len1 ∧ k ≤ len2) ∧ i = .int .i64 k ∧ Below w.heap.size w wr ∧ Hid (rowsF (v1.drop k) (v2.drop k) = rowsF v1 v2)) (fun i _ => len1 - (intOf i).toNat)
  case atStart => exact ⟨0, by omega, rfl, Below.refl _ _, Lib.hid rfl⟩
  case round =>
    obtain ⟨k, ⟨hk, hk'⟩, rfl, hb, HK⟩ := hrel
    have HB := Lib.hid hb
    clear hb
    by_cases hlt : k < len1 ∧ k < len2
    · obtain ⟨hlt, hlt2⟩ := hlt
      obtain ⟨_, _, hc1⟩ := H1.out.below HB.out
      obtain ⟨_, _, hc2⟩ := H2.out.below HB.out
      rcases hc1 with hz | ⟨b1, off1, rfl, hb1, hc1⟩
      · omega
      rcases hc2 with hz | ⟨b2, off2, rfl, hb2, hc2⟩
      · omega
      obtain ⟨p1, p2, p3⟩ := hc1 k hlt
      obtain ⟨q1, q2, q3⟩ := hc2 k hlt2
      clear hc1 hc2
      have hk0 : (0 : Int) ≤ (k : Int) := by omega
      have hki : (k : Int) < (len2 : Int) := by omega
      have hkj : (k : Int) < (len1 : Int) := by omega
      have hk1 : k < v1.length := by have := HL1.out; omega
      have hk2 : k < v2.length := by have := HL2.out; omega
      by_cases ho : ordX (v1.getD k noV) (v2.getD k noV) = 0
      · have HE := Lib.hid ((rows_eq hk1 hk2 ho).symm.trans HK.out)
        clear HK hk1 hk2
        unfold ordX at ho
        generalize v1.getD k noV = x at *
        generalize v2.getD k noV = y at *
        obtain ⟨xk, xn, xs⟩ := x
        obtain ⟨yk, yn, ys⟩ := y
        dsimp only at *
        have eo : (ordV xk xn xs yk yn ys != 0) = false := by rw [bne_eq_false_iff_eq]; exact ho
        clear ho
        go_wp2
        go_region_held3 (fun w' => w'.cell? ⟨b1, off1 + k * 3, none⟩ = some (.int .i64 xk) ∧ w'.cell? ⟨b1, off1 + k * 3 + 1, none⟩ = some (.int .i64 xn) ∧ w'.cell? ⟨b1, off1 + k * 3 + 2, none⟩ = some (.string xs) ∧ w'.cell? ⟨b2, off2 + k * 3, none⟩ = some (.int .i64 yk) ∧ w'.cell? ⟨b2, off2 + k * 3 + 1, none⟩ = some (.int .i64 yn) ∧ w'.cell? ⟨b2, off2 + k * 3 + 2, none⟩ = some (.string ys)) (first | exact ⟨p1, p2, p3, q1, q2, q3⟩ | exact keep6 (by repeat (first | exact Below.refl _ _ | refine Below.drew ?_ | refine bel _ ?_)) p1 p2 p3 q1 q2 q3)
          (first | (go_at_call 149; refine (rorder_any _ _ _ _ _ _ _).mono ?_; rintro e w' ⟨rfl, rfl⟩))
        go_wp2
        go_roundw
        case rel =>
          refine ⟨k + 1, by omega, by go_num, ?_, HE⟩
          have := HB.out
          repeat (first | exact this | refine Below.drew ?_ | refine bel _ ?_)
        case measure => simp [intOf]; omega
      · have HE := Lib.hid ((rows_ne hk1 hk2 ho).symm.trans HK.out)
        clear HK hk1 hk2
        unfold ordX at ho HE
        generalize v1.getD k noV = x at *
        generalize v2.getD k noV = y at *
        obtain ⟨xk, xn, xs⟩ := x
        obtain ⟨yk, yn, ys⟩ := y
        dsimp only at *
        have eo : (ordV xk xn xs yk yn ys != 0) = true := by rw [bne_iff_ne]; exact ho
        clear ho
        go_wp2
        go_region_held3 (fun w' => w'.cell? ⟨b1, off1 + k * 3, none⟩ = some (.int .i64 xk) ∧ w'.cell? ⟨b1, off1 + k * 3 + 1, none⟩ = some (.int .i64 xn) ∧ w'.cell? ⟨b1, off1 + k * 3 + 2, none⟩ = some (.string xs) ∧ w'.cell? ⟨b2, off2 + k * 3, none⟩ = some (.int .i64 yk) ∧ w'.cell? ⟨b2, off2 + k * 3 + 1, none⟩ = some (.int .i64 yn) ∧ w'.cell? ⟨b2, off2 + k * 3 + 2, none⟩ = some (.string ys)) (first | exact ⟨p1, p2, p3, q1, q2, q3⟩ | exact keep6 (by repeat (first | exact Below.refl _ _ | refine Below.drew ?_ | refine bel _ ?_)) p1 p2 p3 q1 q2 q3)
          (first | (go_at_call 149; refine (rorder_any _ _ _ _ _ _ _).mono ?_; rintro e w' ⟨rfl, rfl⟩))
        go_wp2
        go_ret
        refine ⟨ret_int HE.out, ?_⟩
        have := HB.out
        repeat (first | exact this | refine Below.drew ?_ | refine bel _ ?_)
    · by_cases he : k < len1
      · obtain rfl : k = len2 := by omega
        have HE := Lib.hid ((rows_right (by have := HL1.out; omega) (by have := HL2.out; omega)).symm.trans HK.out)
        clear HK hlt
        go_wp2
        go_ret
        exact ⟨ret_int HE.out, HB.out⟩
      · obtain rfl : k = len1 := by omega
        by_cases he2 : k = len2
        · subst he2
          have HE := Lib.hid ((rows_both (by have := HL1.out; omega) (by have := HL2.out; omega)).symm.trans HK.out)
          clear HK hlt
          go_wp2
          go_ret
          exact ⟨ret_int HE.out, HB.out⟩
        · have HE := Lib.hid ((rows_left (by have := HL1.out; omega) (by have := HL2.out; omega)).symm.trans HK.out)
          have hlt3 : (k : Int) < (len2 : Int) := by omega
          clear HK hlt
          go_wp2
          go_ret
          exact ⟨ret_int HE.out, HB.out⟩
end Go.Proofs.Ytplgkblahmndoaa
