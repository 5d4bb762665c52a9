/- Contracts of Rows (the program's and the document's): every two slices of values. -/
import Derived.Test.YtkicipjaefmahaaRowPure
import Derived.Test.YtkicipjaefmahaaRecL
namespace Go.Proofs.Ytkicipjaefmahaa
open Go.RowKit
set_option linter.unusedVariables false

theorem keep6 {w w' : World} {a1 a2 a3 a4 a5 a6 : Addr} {x1 x2 x3 x4 x5 x6 : Value} (hb : Below w.heap.size w w') (p1 : w.cell? a1 = some x1) (p2 : w.cell? a2 = some x2) (p3 : w.cell? a3 = some x3) (p4 : w.cell? a4 = some x4) (p5 : w.cell? a5 = some x5) (p6 : w.cell? a6 = some x6) :
    w'.cell? a1 = some x1 ∧ w'.cell? a2 = some x2 ∧ w'.cell? a3 = some x3 ∧ w'.cell? a4 = some x4 ∧ w'.cell? a5 = some x5 ∧ w'.cell? a6 = some x6 :=
  ⟨cell_later hb p1, cell_later hb p2, cell_later hb p3, cell_later hb p4, cell_later hb p5, cell_later hb p6⟩

set_option maxHeartbeats 2000000 in
theorem vrows_short (a1 : Option Addr) (len1 cap1 : Nat) (v1 : List Val) (a2 : Option Addr) (len2 cap2 : Nat) (v2 : List Val) (w : World) (h1 : IsV w a1 len1 v1) (h2 : IsV w a2 len2 v2) (hle : len1 ≤ len2) :
    Calls Try.prog 11 #[.slice a1 len1 cap1, .slice a2 len2 cap2] w fun e w' => e = .returned (.int .i64 (rowsF v1 v2)) ∧ Below w.heap.size w w' := by
  have H1 := Lib.hid h1
  have H2 := Lib.hid h2
  obtain ⟨hl1, hm1, _⟩ := h1
  obtain ⟨hl2, hm2, _⟩ := h2
  have HL1 := Lib.hid hl1
  have HL2 := Lib.hid hl2
  have hle' : (len1 : Int) ≤ (len2 : Int) := by omega
  clear hl1 hl2
  go_enter Try.func11, Try.ntmps11
  go_wp2
  go_loopw [12] (fun i wr => ∃ k : Nat, (k ≤ len1 ∧ k ≤ len2) ∧ i = .int .i64 k ∧ Below w.heap.size w wr ∧ Hid (rowsF (v1.drop k) (v2.drop k) = rowsF v1 v2)) (fun i _ => len1 - (intOf i).toNat)
  case atStart => exact ⟨0, by omega, rfl, Below.refl _ _, Lib.hid rfl⟩
  case round =>
    obtain ⟨k, ⟨hk, hk'⟩, rfl, hb, HK⟩ := hrel
    have HB := Lib.hid hb
    clear hb
    by_cases hlt : k < len1 ∧ k < len2
    · obtain ⟨hlt, hlt2⟩ := hlt
      obtain ⟨_, _, hc1⟩ := H1.out.below HB.out
      obtain ⟨_, _, hc2⟩ := H2.out.below HB.out
      rcases hc1 with hz | ⟨b1, off1, rfl, hb1, hc1⟩
      · omega
      rcases hc2 with hz | ⟨b2, off2, rfl, hb2, hc2⟩
      · omega
      obtain ⟨p1, p2, p3⟩ := hc1 k hlt
      obtain ⟨q1, q2, q3⟩ := hc2 k hlt2
      clear hc1 hc2
      have hk0 : (0 : Int) ≤ (k : Int) := by omega
      have hki : (k : Int) < (len2 : Int) := by omega
      have hkj : (k : Int) < (len1 : Int) := by omega
      have hk1 : k < v1.length := by have := HL1.out; omega
      have hk2 : k < v2.length := by have := HL2.out; omega
      by_cases ho : ordX (v1.getD k noV) (v2.getD k noV) = 0
      · have HE := Lib.hid ((rows_eq hk1 hk2 ho).symm.trans HK.out)
        clear HK hk1 hk2
        unfold ordX at ho
        generalize v1.getD k noV = x at *
        generalize v2.getD k noV = y at *
        obtain ⟨xk, xn, xs⟩ := x
        obtain ⟨yk, yn, ys⟩ := y
        dsimp only at *
        have eo : (ordV xk xn xs yk yn ys != 0) = false := by rw [bne_eq_false_iff_eq]; exact ho
        clear ho
        go_wp2
        go_region_held3 (fun w' => w'.cell? ⟨b1, off1 + k * 3, none⟩ = some (.int .i64 xk) ∧ w'.cell? ⟨b1, off1 + k * 3 + 1, none⟩ = some (.int .i64 xn) ∧ w'.cell? ⟨b1, off1 + k * 3 + 2, none⟩ = some (.string xs) ∧ w'.cell? ⟨b2, off2 + k * 3, none⟩ = some (.int .i64 yk) ∧ w'.cell? ⟨b2, off2 + k * 3 + 1, none⟩ = some (.int .i64 yn) ∧ w'.cell? ⟨b2, off2 + k * 3 + 2, none⟩ = some (.string ys)) (first | exact ⟨p1, p2, p3, q1, q2, q3⟩ | exact keep6 (by repeat (first | exact Below.refl _ _ | refine Below.drew ?_ | refine bel _ ?_)) p1 p2 p3 q1 q2 q3)
          (first | (go_at_call 10; refine (order_any _ _ _ _ _ _ _).mono ?_; rintro e w' ⟨rfl, rfl⟩))
        go_wp2
        go_roundw
        case rel =>
          refine ⟨k + 1, by omega, by go_num, ?_, HE⟩
          have := HB.out
          repeat (first | exact this | refine Below.drew ?_ | refine bel _ ?_)
        case measure => simp [intOf]; omega
      · have HE := Lib.hid ((rows_ne hk1 hk2 ho).symm.trans HK.out)
        clear HK hk1 hk2
        unfold ordX at ho HE
        generalize v1.getD k noV = x at *
        generalize v2.getD k noV = y at *
        obtain ⟨xk, xn, xs⟩ := x
        obtain ⟨yk, yn, ys⟩ := y
        dsimp only at *
        have eo : (ordV xk xn xs yk yn ys != 0) = true := by rw [bne_iff_ne]; exact ho
        clear ho
        go_wp2
        go_region_held3 (fun w' => w'.cell? ⟨b1, off1 + k * 3, none⟩ = some (.int .i64 xk) ∧ w'.cell? ⟨b1, off1 + k * 3 + 1, none⟩ = some (.int .i64 xn) ∧ w'.cell? ⟨b1, off1 + k * 3 + 2, none⟩ = some (.string xs) ∧ w'.cell? ⟨b2, off2 + k * 3, none⟩ = some (.int .i64 yk) ∧ w'.cell? ⟨b2, off2 + k * 3 + 1, none⟩ = some (.int .i64 yn) ∧ w'.cell? ⟨b2, off2 + k * 3 + 2, none⟩ = some (.string ys)) (first | exact ⟨p1, p2, p3, q1, q2, q3⟩ | exact keep6 (by repeat (first | exact Below.refl _ _ | refine Below.drew ?_ | refine bel _ ?_)) p1 p2 p3 q1 q2 q3)
          (first | (go_at_call 10; refine (order_any _ _ _ _ _ _ _).mono ?_; rintro e w' ⟨rfl, rfl⟩))
        go_wp2
        go_ret
        refine ⟨ret_int HE.out, ?_⟩
        have := HB.out
        repeat (first | exact this | refine Below.drew ?_ | refine bel _ ?_)
    · obtain rfl : k = len1 := by omega
      by_cases he : k = len2
      · subst he
        have HE := Lib.hid ((rows_both (by have := HL1.out; omega) (by have := HL2.out; omega)).symm.trans HK.out)
        clear HK hlt
        go_wp2_with (go_at_call 31; refine (cmpI_any _ _ _).mono ?_; rintro e w' ⟨rfl, rfl⟩)
        go_ret
        exact ⟨ret_int (by rw [← HE.out, oI_self]), HB.out⟩
      · have HE := Lib.hid ((rows_left (by have := HL1.out; omega) (by have := HL2.out; omega)).symm.trans HK.out)
        clear HK hlt
        go_wp2_with (go_at_call 31; refine (cmpI_any _ _ _).mono ?_; rintro e w' ⟨rfl, rfl⟩)
        go_ret
        exact ⟨ret_int (by rw [← HE.out, ← oI_lt (by omega)]), HB.out⟩

set_option maxHeartbeats 2000000 in
theorem vrows_long (a1 : Option Addr) (len1 cap1 : Nat) (v1 : List Val) (a2 : Option Addr) (len2 cap2 : Nat) (v2 : List Val) (w : World) (h1 : IsV w a1 len1 v1) (h2 : IsV w a2 len2 v2) (hle : len2 < len1) :
    Calls Try.prog 11 #[.slice a1 len1 cap1, .slice a2 len2 cap2] w fun e w' => e = .returned (.int .i64 (rowsF v1 v2)) ∧ Below w.heap.size w w' := by
  have H1 := Lib.hid h1
  have H2 := Lib.hid h2
  obtain ⟨hl1, hm1, _⟩ := h1
  obtain ⟨hl2, hm2, _⟩ := h2
  have HL1 := Lib.hid hl1
  have HL2 := Lib.hid hl2
  have hle' : (len2 : Int) < (len1 : Int) := by omega
  clear hl1 hl2
  go_enter Try.func11, Try.ntmps11
  go_wp2
  go_loopw [12] (fun i wr => ∃ k : Nat, (k ≤ len1 ∧ k ≤ len2) ∧ i = .int .i64 k ∧ Below w.heap.size w wr ∧ Hid (rowsF (v1.drop k) (v2.drop k) = rowsF v1 v2)) (fun i _ => len2 - (intOf i).toNat)
  case atStart => exact ⟨0, by omega, rfl, Below.refl _ _, Lib.hid rfl⟩
  case round =>
    obtain ⟨k, ⟨hk, hk'⟩, rfl, hb, HK⟩ := hrel
    have HB := Lib.hid hb
    clear hb
    by_cases hlt : k < len1 ∧ k < len2
    · obtain ⟨hlt, hlt2⟩ := hlt
      obtain ⟨_, _, hc1⟩ := H1.out.below HB.out
      obtain ⟨_, _, hc2⟩ := H2.out.below HB.out
      rcases hc1 with hz | ⟨b1, off1, rfl, hb1, hc1⟩
      · omega
      rcases hc2 with hz | ⟨b2, off2, rfl, hb2, hc2⟩
      · omega
      obtain ⟨p1, p2, p3⟩ := hc1 k hlt
      obtain ⟨q1, q2, q3⟩ := hc2 k hlt2
      clear hc1 hc2
      have hk0 : (0 : Int) ≤ (k : Int) := by omega
      have hki : (k : Int) < (len2 : Int) := by omega
      have hkj : (k : Int) < (len1 : Int) := by omega
      have hk1 : k < v1.length := by have := HL1.out; omega
      have hk2 : k < v2.length := by have := HL2.out; omega
      by_cases ho : ordX (v1.getD k noV) (v2.getD k noV) = 0
      · have HE := Lib.hid ((rows_eq hk1 hk2 ho).symm.trans HK.out)
        clear HK hk1 hk2
        unfold ordX at ho
        generalize v1.getD k noV = x at *
        generalize v2.getD k noV = y at *
        obtain ⟨xk, xn, xs⟩ := x
        obtain ⟨yk, yn, ys⟩ := y
        dsimp only at *
        have eo : (ordV xk xn xs yk yn ys != 0) = false := by rw [bne_eq_false_iff_eq]; exact ho
        clear ho
        go_wp2
        go_region_held3 (fun w' => w'.cell? ⟨b1, off1 + k * 3, none⟩ = some (.int .i64 xk) ∧ w'.cell? ⟨b1, off1 + k * 3 + 1, none⟩ = some (.int .i64 xn) ∧ w'.cell? ⟨b1, off1 + k * 3 + 2, none⟩ = some (.string xs) ∧ w'.cell? ⟨b2, off2 + k * 3, none⟩ = some (.int .i64 yk) ∧ w'.cell? ⟨b2, off2 + k * 3 + 1, none⟩ = some (.int .i64 yn) ∧ w'.cell? ⟨b2, off2 + k * 3 + 2, none⟩ = some (.string ys)) (first | exact ⟨p1, p2, p3, q1, q2, q3⟩ | exact keep6 (by repeat (first | exact Below.refl _ _ | refine Below.drew ?_ | refine bel _ ?_)) p1 p2 p3 q1 q2 q3)
          (first | (go_at_call 10; refine (order_any _ _ _ _ _ _ _).mono ?_; rintro e w' ⟨rfl, rfl⟩))
        go_wp2
        go_roundw
        case rel =>
          refine ⟨k + 1, by omega, by go_num, ?_, HE⟩
          have := HB.out
          repeat (first | exact this | refine Below.drew ?_ | refine bel _ ?_)
        case measure => simp [intOf]; omega
      · have HE := Lib.hid ((rows_ne hk1 hk2 ho).symm.trans HK.out)
        clear HK hk1 hk2
        unfold ordX at ho HE
        generalize v1.getD k noV = x at *
        generalize v2.getD k noV = y at *
        obtain ⟨xk, xn, xs⟩ := x
        obtain ⟨yk, yn, ys⟩ := y
        dsimp only at *
        have eo : (ordV xk xn xs yk yn ys != 0) = true := by rw [bne_iff_ne]; exact ho
        clear ho
        go_wp2
        go_region_held3 (fun w' => w'.cell? ⟨b1, off1 + k * 3, none⟩ = some (.int .i64 xk) ∧ w'.cell? ⟨b1, off1 + k * 3 + 1, none⟩ = some (.int .i64 xn) ∧ w'.cell? ⟨b1, off1 + k * 3 + 2, none⟩ = some (.string xs) ∧ w'.cell? ⟨b2, off2 + k * 3, none⟩ = some (.int .i64 yk) ∧ w'.cell? ⟨b2, off2 + k * 3 + 1, none⟩ = some (.int .i64 yn) ∧ w'.cell? ⟨b2, off2 + k * 3 + 2, none⟩ = some (.string ys)) (first | exact ⟨p1, p2, p3, q1, q2, q3⟩ | exact keep6 (by repeat (first | exact Below.refl _ _ | refine Below.drew ?_ | refine bel _ ?_)) p1 p2 p3 q1 q2 q3)
          (first | (go_at_call 10; refine (order_any _ _ _ _ _ _ _).mono ?_; rintro e w' ⟨rfl, rfl⟩))
        go_wp2
        go_ret
        refine ⟨ret_int HE.out, ?_⟩
        have := HB.out
        repeat (first | exact this | refine Below.drew ?_ | refine bel _ ?_)
    · obtain rfl : k = len2 := by omega
      have HE := Lib.hid ((rows_right (by have := HL1.out; omega) (by have := HL2.out; omega)).symm.trans HK.out)
      clear HK hlt
      go_wp2_with (go_at_call 31; refine (cmpI_any _ _ _).mono ?_; rintro e w' ⟨rfl, rfl⟩)
      go_ret
      exact ⟨ret_int (by rw [← HE.out, ← oI_gt (by omega)]), HB.out⟩

theorem vrows_any (a1 : Option Addr) (len1 cap1 : Nat) (v1 : List Val) (a2 : Option Addr) (len2 cap2 : Nat) (v2 : List Val) (w : World) (h1 : IsV w a1 len1 v1) (h2 : IsV w a2 len2 v2) :
    Calls Try.prog 11 #[.slice a1 len1 cap1, .slice a2 len2 cap2] w fun e w' => e = .returned (.int .i64 (rowsF v1 v2)) ∧ Below w.heap.size w w' := by
  by_cases h : len1 ≤ len2
  · exact vrows_short _ _ _ _ _ _ _ _ _ h1 h2 h
  · exact vrows_long _ _ _ _ _ _ _ _ _ h1 h2 (by omega)

set_option maxHeartbeats 2000000 in
theorem rrows_any (a1 : Option Addr) (len1 cap1 : Nat) (v1 : List Val) (a2 : Option Addr) (len2 cap2 : Nat) (v2 : List Val) (w : World) (h1 : IsV w a1 len1 v1) (h2 : IsV w a2 len2 v2) :
    Calls Try.prog 15 #[.slice a1 len1 cap1, .slice a2 len2 cap2] w fun e w' => e = .returned (.int .i64 (rowsF v1 v2)) ∧ Below w.heap.size w w' := by
  have H1 := Lib.hid h1
  have H2 := Lib.hid h2
  obtain ⟨hl1, hm1, _⟩ := h1
  obtain ⟨hl2, hm2, _⟩ := h2
  have HL1 := Lib.hid hl1
  have HL2 := Lib.hid hl2
  clear hl1 hl2
  go_enter Try.func15, Try.ntmps15
  go_wp2
  go_loopw [9] (fun i wr => ∃ k : Nat, (k ≤ len1 ∧ k ≤ len2) ∧ i = .int .i64 k ∧ Below w.heap.size w wr ∧ Hid (rowsF (v1.drop k) (v2.drop k) = rowsF v1 v2)) (fun i _ => len1 - (intOf i).toNat)
  case atStart => exact ⟨0, by omega, rfl, Below.refl _ _, Lib.hid rfl⟩
  case round =>
    obtain ⟨k, ⟨hk, hk'⟩, rfl, hb, HK⟩ := hrel
    have HB := Lib.hid hb
    clear hb
    by_cases hlt : k < len1 ∧ k < len2
    · obtain ⟨hlt, hlt2⟩ := hlt
      obtain ⟨_, _, hc1⟩ := H1.out.below HB.out
      obtain ⟨_, _, hc2⟩ := H2.out.below HB.out
      rcases hc1 with hz | ⟨b1, off1, rfl, hb1, hc1⟩
      · omega
      rcases hc2 with hz | ⟨b2, off2, rfl, hb2, hc2⟩
      · omega
      obtain ⟨p1, p2, p3⟩ := hc1 k hlt
      obtain ⟨q1, q2, q3⟩ := hc2 k hlt2
      clear hc1 hc2
      have hk0 : (0 : Int) ≤ (k : Int) := by omega
      have hki : (k : Int) < (len2 : Int) := by omega
      have hkj : (k : Int) < (len1 : Int) := by omega
      have hk1 : k < v1.length := by have := HL1.out; omega
      have hk2 : k < v2.length := by have := HL2.out; omega
      by_cases ho : ordX (v1.getD k noV) (v2.getD k noV) = 0
      · have HE := Lib.hid ((rows_eq hk1 hk2 ho).symm.trans HK.out)
        clear HK hk1 hk2
        unfold ordX at ho
        generalize v1.getD k noV = x at *
        generalize v2.getD k noV = y at *
        obtain ⟨xk, xn, xs⟩ := x
        obtain ⟨yk, yn, ys⟩ := y
        dsimp only at *
        have eo : (ordV xk xn xs yk yn ys != 0) = false := by rw [bne_eq_false_iff_eq]; exact ho
        clear ho
        go_wp2
        go_region_held3 (fun w' => w'.cell? ⟨b1, off1 + k * 3, none⟩ = some (.int .i64 xk) ∧ w'.cell? ⟨b1, off1 + k * 3 + 1, none⟩ = some (.int .i64 xn) ∧ w'.cell? ⟨b1, off1 + k * 3 + 2, none⟩ = some (.string xs) ∧ w'.cell? ⟨b2, off2 + k * 3, none⟩ = some (.int .i64 yk) ∧ w'.cell? ⟨b2, off2 + k * 3 + 1, none⟩ = some (.int .i64 yn) ∧ w'.cell? ⟨b2, off2 + k * 3 + 2, none⟩ = some (.string ys)) (first | exact ⟨p1, p2, p3, q1, q2, q3⟩ | exact keep6 (by repeat (first | exact Below.refl _ _ | refine Below.drew ?_ | refine bel _ ?_)) p1 p2 p3 q1 q2 q3)
          (first | (go_at_call 14; refine (rorder_any _ _ _ _ _ _ _).mono ?_; rintro e w' ⟨rfl, rfl⟩))
        go_wp2
        go_roundw
        case rel =>
          refine ⟨k + 1, by omega, by go_num, ?_, HE⟩
          have := HB.out
          repeat (first | exact this | refine Below.drew ?_ | refine bel _ ?_)
        case measure => simp [intOf]; omega
      · have HE := Lib.hid ((rows_ne hk1 hk2 ho).symm.trans HK.out)
        clear HK hk1 hk2
        unfold ordX at ho HE
        generalize v1.getD k noV = x at *
        generalize v2.getD k noV = y at *
        obtain ⟨xk, xn, xs⟩ := x
        obtain ⟨yk, yn, ys⟩ := y
        dsimp only at *
        have eo : (ordV xk xn xs yk yn ys != 0) = true := by rw [bne_iff_ne]; exact ho
        clear ho
        go_wp2
        go_region_held3 (fun w' => w'.cell? ⟨b1, off1 + k * 3, none⟩ = some (.int .i64 xk) ∧ w'.cell? ⟨b1, off1 + k * 3 + 1, none⟩ = some (.int .i64 xn) ∧ w'.cell? ⟨b1, off1 + k * 3 + 2, none⟩ = some (.string xs) ∧ w'.cell? ⟨b2, off2 + k * 3, none⟩ = some (.int .i64 yk) ∧ w'.cell? ⟨b2, off2 + k * 3 + 1, none⟩ = some (.int .i64 yn) ∧ w'.cell? ⟨b2, off2 + k * 3 + 2, none⟩ = some (.string ys)) (first | exact ⟨p1, p2, p3, q1, q2, q3⟩ | exact keep6 (by repeat (first | exact Below.refl _ _ | refine Below.drew ?_ | refine bel _ ?_)) p1 p2 p3 q1 q2 q3)
          (first | (go_at_call 14; refine (rorder_any _ _ _ _ _ _ _).mono ?_; rintro e w' ⟨rfl, rfl⟩))
        go_wp2
        go_ret
        refine ⟨ret_int HE.out, ?_⟩
        have := HB.out
        repeat (first | exact this | refine Below.drew ?_ | refine bel _ ?_)
    · by_cases he : k < len1
      · obtain rfl : k = len2 := by omega
        have HE := Lib.hid ((rows_right (by have := HL1.out; omega) (by have := HL2.out; omega)).symm.trans HK.out)
        clear HK hlt
        go_wp2
        go_ret
        exact ⟨ret_int HE.out, HB.out⟩
      · obtain rfl : k = len1 := by omega
        by_cases he2 : k = len2
        · subst he2
          have HE := Lib.hid ((rows_both (by have := HL1.out; omega) (by have := HL2.out; omega)).symm.trans HK.out)
          clear HK hlt
          go_wp2
          go_ret
          exact ⟨ret_int HE.out, HB.out⟩
        · have HE := Lib.hid ((rows_left (by have := HL1.out; omega) (by have := HL2.out; omega)).symm.trans HK.out)
          have hlt3 : (k : Int) < (len2 : Int) := by omega
          clear HK hlt
          go_wp2
          go_ret
          exact ⟨ret_int HE.out, HB.out⟩
end Go.Proofs.Ytkicipjaefmahaa
